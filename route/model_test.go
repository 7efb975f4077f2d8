package route

import (
	"encoding/hex"
	"regexp"
	"strconv"
	"strings"
	"unicode/utf8"

	"tocsin/api"
	"tocsin/jsonval"
)

// A plain second reading of the chapter: the table as text, targets by expressions, members by their names.

// modelTable: method, path, names of the query, body, command, and whether it has the user; "-" is nothing.
const modelTable = `
PUT    /events                        -            event:any      event         -
PUT    /rules/{kind}/{id}             before&after rule:object    put_rule      user
DELETE /rules/{kind}/{id}             -            -              delete_rule   user
PUT    /rules/{kind}/{id}/enabled     -            enabled:bool   enable_rule   user
PUT    /rules/{kind}/{id}/actions     -            actions:list   set_actions   user
GET    /rules                         -            -              rules         user
POST   /rooms/{room}/receipt/{event}  -            -              receipt       user
GET    /counts                        room         -              counts        user
PUT    /pushers/{key}                 -            format:text    set_pusher    user
DELETE /pushers/{key}                 -            -              remove_pusher user
GET    /pushers                       -            -              pushers       user
POST   /tick                          -            now:int        tick          -
POST   /attempts/{attempt#}           -            result:text    reply         -
POST   /rotate                        -            -              rotate        -
GET    /rooms/{room}                  -            -              room          -
`

type modelRow struct {
	method, path string
	query        []string
	body, kind   string
	do           string
	user         bool
}

var modelRows = func() []modelRow {
	var rows []modelRow
	for _, line := range strings.Split(strings.TrimSpace(modelTable), "\n") {
		f := strings.Fields(line)
		r := modelRow{method: f[0], path: f[1], do: f[4], user: f[5] == "user"}
		if f[2] != "-" {
			r.query = strings.Split(f[2], "&")
		}
		if f[3] != "-" {
			r.body, r.kind, _ = strings.Cut(f[3], ":")
		}
		rows = append(rows, r)
	}
	return rows
}()

var kindsOf = map[string][]jsonval.Kind{
	"any":    {jsonval.Null, jsonval.Bool, jsonval.Int, jsonval.Text, jsonval.List, jsonval.Object},
	"object": {jsonval.Object}, "bool": {jsonval.Bool}, "list": {jsonval.List}, "text": {jsonval.Text}, "int": {jsonval.Int},
}

func isOfKind(v *jsonval.Value, kind string) bool {
	for _, k := range kindsOf[kind] {
		if v.Kind() == k {
			return true
		}
	}
	return false
}

const (
	modelSign = `[-A-Za-z0-9._~!$'()*+,;:@]|%[0-9A-Fa-f]{2}`
	modelText = `(?:` + modelSign + `)*`
)

var (
	isEscaped   = regexp.MustCompile(`^` + modelText + `$`)
	isEscape    = regexp.MustCompile(`%..`)
	isTarget    = regexp.MustCompile(`^/v1((?:/` + modelText + `)+)(\?` + modelText + `=` + modelText + `(?:&` + modelText + `=` + modelText + `)*)?$`)
	isNumber    = regexp.MustCompile(`^(0|[1-9][0-9]{0,15})$`)
	isPlainSign = regexp.MustCompile(`^[-A-Za-z0-9._~!$'()*+,;:@]$`)
)

func modelUnescape(s string) (string, bool) {
	if !isEscaped.MatchString(s) {
		return "", false
	}
	text := isEscape.ReplaceAllStringFunc(s, func(e string) string {
		b, _ := hex.DecodeString(e[1:])
		return string(b)
	})
	if !utf8.ValidString(text) {
		return "", false
	}
	return text, true
}

func modelEscape(s string) string {
	text := ""
	for _, c := range []byte(s) {
		if one := string([]byte{c}); isPlainSign.MatchString(one) {
			text += one
		} else {
			text += "%" + strings.ToUpper(hex.EncodeToString([]byte{c}))
		}
	}
	return text
}

// modelMembers gives the members that the path of a row tells; false: it is another one.
func modelMembers(path string, segments []string) (map[string]*jsonval.Value, bool) {
	names := strings.Split(path, "/")[1:]
	members := map[string]*jsonval.Value{}
	if len(names) != len(segments) {
		return nil, false
	}
	for i, name := range names {
		if !strings.HasPrefix(name, "{") {
			if name != segments[i] {
				return nil, false
			}
			continue
		}
		name = strings.Trim(name, "{}")
		if !strings.HasSuffix(name, "#") {
			members[name] = jsonval.OfText(segments[i])
			continue
		}
		n, _ := strconv.Atoi(segments[i])
		if !isNumber.MatchString(segments[i]) || n > 9007199254740991 {
			return nil, false
		}
		members[strings.Trim(name, "#")] = jsonval.OfInt(int64(n))
	}
	return members, true
}

func modelTarget(target string) (segments []string, query map[string]string, ok bool) {
	parts := isTarget.FindStringSubmatch(target)
	if len(target) > 512 || parts == nil {
		return nil, nil, false
	}
	for _, s := range strings.Split(parts[1], "/")[1:] {
		text, ok := modelUnescape(s)
		if !ok {
			return nil, nil, false
		}
		segments = append(segments, text)
	}
	query = map[string]string{}
	if parts[2] == "" {
		return segments, query, true
	}
	for _, s := range strings.Split(parts[2][1:], "&") {
		name, value, _ := strings.Cut(s, "=")
		name, isName := modelUnescape(name)
		value, isValue := modelUnescape(value)
		if _, twice := query[name]; !isName || !isValue || twice {
			return nil, nil, false
		}
		query[name] = value
	}
	return segments, query, true
}

// modelCommand prints the command; "" beside an error.
func modelCommand(r api.Request, user string) (string, api.Errno) {
	segments, query, ok := modelTarget(r.Target)
	if !ok {
		return "", 190
	}
	known, wanted := map[string]bool{}, map[string]bool{}
	var row *modelRow
	var members map[string]*jsonval.Value
	lies := false
	for i, x := range modelRows {
		m, ok := modelMembers(x.path, segments)
		if !ok {
			continue
		}
		lies = true
		for _, name := range x.query {
			known[name] = true
			wanted[name] = wanted[name] || x.method == r.Method
		}
		if x.method == r.Method {
			row, members = &modelRows[i], m
		}
	}
	wrong := false
	for name := range query {
		lies = lies && known[name]
		wrong = wrong || !wanted[name]
	}
	if !lies {
		return "", 190
	}
	if row == nil || wrong {
		return "", 191
	}
	for name, value := range query {
		members[name] = jsonval.OfText(value)
	}
	members["do"] = jsonval.OfText(row.do)
	if row.user {
		members["user"] = jsonval.OfText(user)
	}
	if row.body == "" {
		if len(r.Body) > 0 {
			return "", 140
		}
		return jsonval.OfMap(members).Print(), 0
	}
	body, err := jsonval.Parse(r.Body)
	if err != nil || !isOfKind(body, row.kind) {
		return "", 140
	}
	members[row.body] = body
	return jsonval.OfMap(members).Print(), 0
}

// modelRequest gives method, target and body.
func modelRequest(command *jsonval.Value, user string) ([3]string, api.Errno) {
	for _, x := range modelRows {
		if command.Get("do").Kind() != jsonval.Text || command.Get("do").Text() != x.do {
			continue
		}
		left := map[string]*jsonval.Value{}
		for i := range command.Len() {
			left[command.Key(i)] = command.Item(i)
		}
		delete(left, "do")
		target, ok := modelWrite(x, left, user)
		if !ok {
			return [3]string{}, 140
		}
		body := ""
		if x.body != "" {
			if left[x.body] == nil || !isOfKind(left[x.body], x.kind) {
				return [3]string{}, 140
			}
			body = left[x.body].Print()
			delete(left, x.body)
		}
		if len(left) != 0 {
			return [3]string{}, 140
		}
		if len(target) > 512 {
			return [3]string{}, 190
		}
		return [3]string{x.method, target, body}, 0
	}
	return [3]string{}, 140
}

// modelWrite writes the target, and takes the members that stand in it, and the user, out of those that are left.
func modelWrite(x modelRow, left map[string]*jsonval.Value, user string) (string, bool) {
	if x.user {
		v := left["user"]
		if v.Kind() != jsonval.Text || v.Text() != jsonval.OfText(user).Text() {
			return "", false
		}
		delete(left, "user")
	}
	target := "/v1"
	for _, name := range strings.Split(x.path, "/")[1:] {
		if !strings.HasPrefix(name, "{") {
			target += "/" + name
			continue
		}
		name = strings.Trim(name, "{}")
		key := strings.Trim(name, "#")
		v := left[key]
		switch {
		case key != name && v.Kind() == jsonval.Int && v.Number() >= 0:
			target += "/" + strconv.Itoa(int(v.Number()))
		case key == name && v.Kind() == jsonval.Text:
			target += "/" + modelEscape(v.Text())
		default:
			return "", false
		}
		delete(left, key)
	}
	pairs := []string{}
	for _, name := range x.query {
		v, ok := left[name]
		if ok && v.Kind() != jsonval.Text {
			return "", false
		}
		if ok {
			pairs = append(pairs, name+"="+modelEscape(v.Text()))
		}
		delete(left, name)
	}
	if len(pairs) > 0 {
		target += "?" + strings.Join(pairs, "&")
	}
	return target, true
}
