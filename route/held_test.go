package route

import (
	"math/rand"
	"slices"
	"strings"
	"testing"

	"tocsin/api"
	"tocsin/jsonval"
)

const anna = "@a:home"

// ask holds Command against the model, and, if there is a command, Request and what follows.
func ask(t testing.TB, method, target, body, user string) {
	t.Helper()
	b := []byte(body + "behind")
	headers := [][2]string{{"authorization", "x"}}
	got, errno := Command(api.Request{Method: method, Target: target, Body: b[:len(body)], Headers: headers, Last: len(body)%2 == 0}, user)
	if string(b) != body+"behind" || headers[0] != [2]string{"authorization", "x"} {
		t.Fatalf("P3: Command of %s %.600q has written into what was handed in", method, target)
	}
	clear(b)
	want, wantErrno := modelCommand(api.Request{Method: method, Target: target, Body: []byte(body)}, user)
	if errno != wantErrno || errno != api.OK && got != nil || errno == api.OK && got.Print() != want {
		t.Fatalf("Y3: Command of %s %.600q %.100q: %s, %d, want %s, %d", method, target, body, got.Print(), errno, want, wantErrno)
	}
	if errno != api.OK {
		return
	}
	r := write(t, got, user)
	again, errno := Command(r, user)
	if errno != api.OK || !jsonval.Same(again, got) {
		t.Fatalf("Command of the request of %s: %s, %d", want, again.Print(), errno)
	}
	if len(r.Target) > len(target) || len(r.Body) > len(body) {
		t.Fatalf("%s %q %q is longer than %q %q", r.Method, r.Target, r.Body, target, body)
	}
}

// write holds Request against the model.
func write(t testing.TB, command *jsonval.Value, user string) api.Request {
	t.Helper()
	was := command.Print()
	r, errno := Request(command, user)
	want, wantErrno := modelRequest(command, user)
	if errno != wantErrno || r.Method != want[0] || r.Target != want[1] || string(r.Body) != want[2] || len(r.Headers) != 0 || r.Last {
		t.Fatalf("Y4: Request of %.600s: %+v, %d, want %q, %d", was, r, errno, want, wantErrno)
	}
	if errno != api.OK && r.Body != nil {
		t.Fatalf("P2: Request of %.600s: a body beside an error", was)
	}
	if command.Print() != was {
		t.Fatalf("P3: Request has changed %.600s", was)
	}
	return r
}

var (
	someMethods = []string{"GET", "PUT", "POST", "DELETE", "HEAD", "get", "Put", "", "GET ", "PATCH"}
	someBodies  = []string{"", "null", "true", " false ", "0", "-7", `"full"`, `""`, "[]", `["notify", 1]`, "{}", `{"b": 1,"a":[]}`, "x", "1.0", "{", "nul", " ", "\xff", `"\u00e9"`, `{"a":1,"a":2}`, "9007199254740992"}
	someQueries = []string{"", "?", "?room=!r", "?room=", "?room", "?before=x", "?after=y", "?before=x&after=y", "?after=y&before=", "?before=a&before=b", "?room=a&%72oom=a", "?x=1", "?room=a&x=1", "?before=1&room=2", "?=", "?=a", "?&room=a", "?room=a&", "?room=a=b", "?room=a?b", "?room=%", "?ro%6Fm=%20%25", "?room=%ff", "?before=%c3%a9&after=+", "?Room=a", "?room=a/b", "?room=a b", "?&", "?after=a&after=b&before=c"}
	somePaths   = []string{
		"/v1/events", "/v1/rules", "/v1/rules/", "/v1/rules/a", "/v1/rules/a/b", "/v1/rules//", "/v1/rules/a/", "/v1/rules//b", "/v1/rules/a/b/enabled", "/v1/rules/a/b/actions", "/v1/rules/a/b/c", "/v1/rules/a/b/", "/v1/rules///enabled", "/v1/rules/a/b/enabled/", "/v1/rules/a/b/Enabled", "/v1/rules/a/b/e%6eabled", "/v1/rules/enabled/actions",
		"/v1/rooms", "/v1/rooms/", "/v1/rooms/!r", "/v1/rooms/!r/receipt", "/v1/rooms/!r/receipt/", "/v1/rooms/!r/receipt/$1", "/v1/rooms//receipt/", "/v1/rooms/receipt/receipt/receipt", "/v1/rooms/!r/receipts/$1", "/v1/rooms/!r/receipt/$1/", "/v1/rooms/%21r%3aHome/rec%65ipt/%24",
		"/v1/counts", "/v1/counts/", "/v1/%63ounts", "/v1/COUNTS", "/v1/pushers", "/v1/pushers/", "/v1/pushers/k", "/v1/pushers/a%2fb", "/v1/pushers/a/b", "/v1/tick", "/v1/tick/", "/v1/rotate", "/v1/rotate/x",
		"/v1/attempts", "/v1/attempts/", "/v1/attempts/0", "/v1/attempts/00", "/v1/attempts/7", "/v1/attempts/%37", "/v1/attempts/+7", "/v1/attempts/-7", "/v1/attempts/7a", "/v1/attempts/9007199254740991", "/v1/attempts/9007199254740992", "/v1/attempts/7/",
		"", "/", "/v1", "/v1/", "/v1//", "/v1//counts", "/v2/counts", "/V1/counts", "v1/counts", "//v1/counts", "/v1counts", "/%761/counts", "/v1/login", "/v1/feed", "/v1/count", "/v1/countss", "/v1/rooms/%", "/v1/rooms/%4", "/v1/rooms/%4g", "/v1/rooms/%ff", "/v1/rooms/a b", "/v1/rooms/é", "/v1/rooms/%e2%82%ac", "/v1/rooms/a=b", "/v1/rooms/a&b", "/v1/rooms/a#b",
	}
)

func TestAllTogether(t *testing.T) { // Y1 to Y4: each path with each query, method and body
	for _, path := range somePaths {
		for _, query := range someQueries {
			for _, method := range someMethods {
				for _, body := range someBodies {
					ask(t, method, path+query, body, anna)
				}
			}
		}
	}
}

func pick(r *rand.Rand, from []string) string { return from[r.Intn(len(from))] }

// changed is a text in which something small was changed.
func changed(r *rand.Rand, s string) string {
	const marks = "/?&=%+ aA0v1.\x00\xc3\xa9#"
	if s == "" {
		return string(marks[r.Intn(len(marks))])
	}
	at := r.Intn(len(s))
	switch r.Intn(4) {
	case 0:
		return s[:at] + s[at+1:]
	case 1:
		return s[:at] + string(marks[r.Intn(len(marks))]) + s[at:]
	case 2:
		return s[:at] + "%" + strings.ToUpper(string("0123456789abcdef"[s[at]>>4])) + string("0123456789abcdef"[s[at]&15]) + s[at+1:]
	}
	return s[:at] + string([]byte{byte(r.Intn(256))}) + s[at+1:]
}

func TestByChance(t *testing.T) { // Y1 to Y4: what is a little other than it should be
	r := rand.New(rand.NewSource(19))
	users := []string{anna, "", "\xff", "a\xe2\x82", "é", "\"", strings.Repeat("u", 600)}
	for range 60000 {
		target := pick(r, somePaths) + pick(r, someQueries)
		for range r.Intn(4) {
			target = changed(r, target)
		}
		body := pick(r, someBodies)
		if r.Intn(4) == 0 {
			body = changed(r, body)
		}
		ask(t, pick(r, someMethods[:4]), target, body, pick(r, users))
	}
}

// someValue is any small value.
func someValue(r *rand.Rand) *jsonval.Value {
	switch r.Intn(10) {
	case 0:
		return nil
	case 1:
		return jsonval.OfBool(r.Intn(2) == 0)
	case 2:
		return jsonval.OfInt(int64(r.Intn(5) - 2))
	case 3:
		return jsonval.OfInt(api.MaxInt)
	case 4:
		return jsonval.OfList(someValue(r))
	case 5:
		return jsonval.OfMap(map[string]*jsonval.Value{"a": someValue(r)})
	}
	return jsonval.OfText(pick(r, []string{"", "a", "a/b", anna, "é", "%", "?&=", strings.Repeat("+", 240), strings.Repeat("/", 80)}))
}

func TestCommandsByChance(t *testing.T) { // Y4: each command with members too many, too few, and of other kinds
	r := rand.New(rand.NewSource(4))
	done := map[api.Errno]int{}
	for range 40000 {
		row := modelRows[r.Intn(len(modelRows))]
		members := map[string]*jsonval.Value{"do": jsonval.OfText(row.do)}
		for _, part := range strings.Split(row.path, "/") {
			if name := strings.Trim(part, "{}#"); strings.HasSuffix(part, "#}") {
				members[name] = jsonval.OfInt(int64(r.Intn(100)))
			} else if name != part {
				members[name] = jsonval.OfText(pick(r, []string{"", "a", "a/b", "é", strings.Repeat("+", 240), strings.Repeat("/", 166)}))
			}
		}
		if row.user {
			members["user"] = jsonval.OfText(anna)
		}
		if row.body != "" {
			for members[row.body] = someValue(r); !isOfKind(members[row.body], row.kind); members[row.body] = someValue(r) {
			}
		}
		for _, name := range row.query {
			if r.Intn(2) == 0 {
				members[name] = jsonval.OfText(pick(r, []string{"", "x", "&", strings.Repeat("~", 200)}))
			}
		}
		switch name := pick(r, []string{"do", "user", "kind", "id", "rule", "before", "after", "enabled", "actions", "room", "event", "key", "format", "now", "attempt", "result", "", "DO"}); r.Intn(4) {
		case 0:
			delete(members, name)
		case 1:
			members[name] = someValue(r)
		}
		command := jsonval.OfMap(members)
		written := write(t, command, anna)
		_, errno := Request(command, anna)
		done[errno]++
		if errno != api.OK {
			continue
		}
		again, errno := Command(written, anna)
		if errno != api.OK || !jsonval.Same(again, command) {
			t.Fatalf("Command of the request of %s: %s, %d", command.Print(), again.Print(), errno)
		}
	}
	for _, errno := range []api.Errno{api.OK, api.ErrCommand, api.ErrRoute} {
		if done[errno] < 500 {
			t.Errorf("%d came out but %d times", errno, done[errno])
		}
	}
}

func TestOtherCommandsAreOtherRequests(t *testing.T) { // what follows: no two commands are written alike
	texts := []string{"", "a", "/", "?", "&", "=", "%2F", "enabled", "actions", "receipt", "before", "a/b", "é"}
	seen := map[string]string{}
	try := func(members map[string]*jsonval.Value, do string) {
		members["do"] = jsonval.OfText(do)
		command := jsonval.OfMap(members)
		r, errno := Request(command, anna)
		if errno != api.OK {
			t.Fatalf("Request of %s: %d", command.Print(), errno)
		}
		key := r.Method + " " + r.Target + " " + string(r.Body)
		if was, ok := seen[key]; ok && was != command.Print() {
			t.Fatalf("%s and %s are both %s", was, command.Print(), key)
		}
		seen[key] = command.Print()
	}
	of := jsonval.OfText
	for _, a := range texts {
		try(map[string]*jsonval.Value{"room": of(a)}, "room")
		try(map[string]*jsonval.Value{"user": of(anna), "room": of(a)}, "counts")
		try(map[string]*jsonval.Value{"user": of(anna), "key": of(a)}, "remove_pusher")
		try(map[string]*jsonval.Value{"event": of(a)}, "event")
		for _, b := range texts {
			try(map[string]*jsonval.Value{"user": of(anna), "room": of(a), "event": of(b)}, "receipt")
			try(map[string]*jsonval.Value{"user": of(anna), "kind": of(a), "id": of(b)}, "delete_rule")
			try(map[string]*jsonval.Value{"user": of(anna), "key": of(a), "format": of(b)}, "set_pusher")
			for _, c := range texts {
				rule := jsonval.OfMap(nil)
				try(map[string]*jsonval.Value{"user": of(anna), "kind": of("k"), "id": of(c), "rule": rule, "before": of(a), "after": of(b)}, "put_rule")
				try(map[string]*jsonval.Value{"user": of(anna), "kind": of(b), "id": of(c), "rule": rule, "before": of(a)}, "put_rule")
				try(map[string]*jsonval.Value{"user": of(anna), "kind": of(b), "id": of(c), "rule": rule, "after": of(a)}, "put_rule")
			}
		}
	}
	try(map[string]*jsonval.Value{"user": of(anna)}, "counts")
	try(map[string]*jsonval.Value{"user": of(anna)}, "rules")
	try(map[string]*jsonval.Value{"user": of(anna)}, "pushers")
	try(map[string]*jsonval.Value{}, "rotate")
	if len(seen) < 13*13*13*3 {
		t.Errorf("%d requests", len(seen))
	}
}

func FuzzCommand(f *testing.F) {
	for i, path := range somePaths {
		f.Add(someMethods[i%4], path+someQueries[i%len(someQueries)], someBodies[i%len(someBodies)], anna)
	}
	f.Fuzz(func(t *testing.T, method, target, body, user string) { ask(t, method, target, body, user) })
}

func FuzzRequest(f *testing.F) {
	for _, c := range documentRows {
		f.Add(c.command, anna)
	}
	f.Fuzz(func(t *testing.T, text, user string) {
		command, err := jsonval.Parse([]byte(text))
		if err != nil {
			return
		}
		if r := write(t, command, user); r.Method != "" {
			again, errno := Command(r, user)
			if errno != api.OK || !jsonval.Same(again, command) {
				t.Fatalf("Command of the request of %s: %s, %d", text, again.Print(), errno)
			}
		}
	})
}

func FuzzUnescape(f *testing.F) {
	for _, s := range []string{"", "a%2Fb", "%c3%a9", "%", "%4", "%ff", "a+b"} {
		f.Add(s)
	}
	f.Fuzz(func(t *testing.T, s string) { escapes(t, s) })
}

func TestRowsAreThoseOfTheTable(t *testing.T) { // Y2: fifteen, each with a command of its own
	var names []string
	for _, r := range modelRows {
		names = append(names, r.do)
	}
	slices.Sort(names)
	if names = slices.Compact(names); len(names) != 15 || len(table()) != 15 {
		t.Errorf("%d commands, %d rows", len(names), len(table()))
	}
}
