package route

import (
	"maps"
	"slices"
	"strings"
	"testing"

	"tocsin/api"
	"tocsin/jsonval"
)

// membersOf are the members of an object.
func membersOf(v *jsonval.Value) map[string]*jsonval.Value {
	members := map[string]*jsonval.Value{}
	for i := range v.Len() {
		members[v.Key(i)] = v.Item(i)
	}
	return members
}

// isNoCommand tells that Request takes it for none.
func isNoCommand(t *testing.T, members map[string]*jsonval.Value) {
	t.Helper()
	v := jsonval.OfMap(members)
	r, errno := Request(v, anna)
	if errno != api.ErrCommand || r.Method != "" || r.Target != "" || r.Headers != nil || r.Body != nil || r.Last {
		t.Errorf("Y4: Request of %s: %+v, %d", v.Print(), r, errno)
	}
	write(t, v, anna)
}

func with(members map[string]*jsonval.Value, name string, v *jsonval.Value) map[string]*jsonval.Value {
	members = maps.Clone(members)
	members[name] = v
	return members
}

func TestRequestOfOtherMembers(t *testing.T) { // Y4: just the members that the row tells, each of its kind
	all := []string{"", "do ", "Do", "user", "kind", "id", "rule", "before", "after", "enabled", "actions", "room", "event", "key", "format", "now", "attempt", "result"}
	for _, c := range documentRows {
		full := membersOf(valueOf(t, c.command))
		row := modelRows[slices.IndexFunc(modelRows, func(r modelRow) bool { return r.do == full["do"].Text() })]
		for name := range full {
			less := maps.Clone(full)
			delete(less, name)
			if slices.Contains(row.query, name) {
				write(t, jsonval.OfMap(less), anna)
			} else {
				isNoCommand(t, less)
			}
			for _, s := range []string{"null", "true", "-1", "1", `"1"`, "[]", "{}"} {
				v := valueOf(t, s)
				if name == row.body && isOfKind(v, row.kind) || name == "attempt" && s == "1" || v.Kind() == jsonval.Text && name != "user" && name != "do" && name != row.body && name != "attempt" {
					write(t, jsonval.OfMap(with(full, name, v)), anna)
					continue
				}
				isNoCommand(t, with(full, name, v))
			}
		}
		for _, name := range all {
			if full[name] == nil && !slices.Contains(row.query, name) {
				isNoCommand(t, with(full, name, jsonval.OfText(anna)))
				isNoCommand(t, with(full, name, nil))
			}
		}
		for _, do := range []string{"", "x", full["do"].Text() + " ", strings.ToUpper(full["do"].Text())} {
			isNoCommand(t, with(full, "do", jsonval.OfText(do)))
		}
	}
}

func TestRequestOfNoCommand(t *testing.T) { // Y4, P1
	for _, v := range []*jsonval.Value{nil, {}, jsonval.OfBool(true), jsonval.OfInt(1), jsonval.OfText("rotate"), jsonval.OfList(), jsonval.OfList(jsonval.OfText("do")), jsonval.OfMap(nil)} {
		for _, user := range []string{"", anna} {
			if r, errno := Request(v, user); errno != api.ErrCommand || r.Method != "" || r.Target != "" {
				t.Errorf("Y4: Request of %s: %+v, %d", v.Print(), r, errno)
			}
		}
	}
}

func TestRequestOfNumbers(t *testing.T) { // Y4: attempt from 0 on
	for n, want := range map[int64]string{0: "0", 1: "1", 10: "10", api.MaxInt: "9007199254740991"} {
		r, errno := Request(jsonval.OfMap(map[string]*jsonval.Value{"do": jsonval.OfText("reply"), "attempt": jsonval.OfInt(n), "result": jsonval.OfText("ok")}), anna)
		if errno != api.OK || r.Target != "/v1/attempts/"+want {
			t.Errorf("Y4: attempt %d: %+v, %d", n, r, errno)
		}
	}
	for _, n := range []int64{-1, -api.MaxInt} {
		isNoCommand(t, map[string]*jsonval.Value{"do": jsonval.OfText("reply"), "attempt": jsonval.OfInt(n), "result": jsonval.OfText("ok")})
	}
	for _, n := range []string{"0", "-0", "-1", "9007199254740991", "-9007199254740991"} {
		v := valueOf(t, `{"do":"tick","now":`+n+`}`)
		if r, errno := Request(v, anna); errno != api.OK || string(r.Body) != v.Get("now").Print() {
			t.Errorf("Y4: now %s: %+v, %d", n, r, errno)
		}
	}
}

func TestRequestOneWay(t *testing.T) { // Y4: escapes, the order of the query, the printed body
	for command, want := range map[string][3]string{
		`{"do":"put_rule","user":"@a:home","kind":"a b","id":"c/d?e&f=g%","rule":{"b": 1, "a" : "\u00e9"},"after":"&","before":"="}`: {"PUT", "/v1/rules/a%20b/c%2Fd%3Fe%26f%3Dg%25?before=%3D&after=%26", `{"a":"é","b":1}`},
		`{"do":"put_rule","user":"@a:home","kind":"","id":"","rule":{},"after":""}`:                                                  {"PUT", "/v1/rules//?after=", `{}`},
		`{"do":"counts","user":"@a:home","room":"é"}`:                                                                                {"GET", "/v1/counts?room=%C3%A9", ""},
		`{"do":"room","room":"-._~!$'()*+,;:@"}`:                                                                                     {"GET", "/v1/rooms/-._~!$'()*+,;:@", ""},
		`{"do":"receipt","user":"@a:home","room":"receipt","event":"#"}`:                                                             {"POST", "/v1/rooms/receipt/receipt/%23", ""},
		`{"do":"event","event":[ 1 , {} ]}`:                                                                                          {"PUT", "/v1/events", `[1,{}]`},
	} {
		r, errno := Request(valueOf(t, command), anna)
		if got := [3]string{r.Method, r.Target, string(r.Body)}; errno != api.OK || got != want || len(r.Headers) != 0 || r.Last {
			t.Errorf("Y4: Request of %s: %q, %d, want %q", command, got, errno, want)
		}
	}
}

func TestRequestLongestTarget(t *testing.T) { // Y4: 512 bytes, escaped; ErrCommand goes ahead
	for _, c := range []struct{ do, member, begin, more string }{
		{"room", "room", "/v1/rooms/", ``},
		{"counts", "room", "/v1/counts?room=", `,"user":"@a:home"`},
		{"put_rule", "after", "/v1/rules/a/b?after=", `,"user":"@a:home","kind":"a","id":"b","rule":{}`},
		{"set_pusher", "key", "/v1/pushers/", `,"user":"@a:home","format":""`},
	} {
		fill := 512 - len(c.begin)
		for _, x := range []struct {
			text string
			want api.Errno
		}{
			{strings.Repeat("x", fill), api.OK},
			{strings.Repeat("x", fill+1), api.ErrRoute},
			{strings.Repeat("x", fill-3) + "/", api.OK},
			{strings.Repeat("x", fill-2) + "/", api.ErrRoute},
			{strings.Repeat("x", fill-6) + "é", api.OK},
			{strings.Repeat("x", fill-5) + "é", api.ErrRoute},
		} {
			command := valueOf(t, `{"do":"`+c.do+`","`+c.member+`":"`+x.text+`"`+c.more+`}`)
			r, errno := Request(command, anna)
			if errno != x.want || (errno == api.OK) != (len(r.Target) == 512) || errno != api.OK && (r.Method != "" || r.Body != nil) {
				t.Errorf("Y4: %s with %d bytes: %d, want %d", c.do, len(x.text), errno, x.want)
			}
			write(t, command, anna)
			isNoCommand(t, with(membersOf(command), "more", nil))
		}
	}
}

func TestRequestOfWhatCommandMade(t *testing.T) { // P3a: it may be deeper and longer than a value that is read
	deep := strings.Repeat(`[`, 10) + strings.Repeat(`]`, 10)
	long := `"` + strings.Repeat("x", 4094) + `"`
	for _, c := range [][3]string{{"PUT", "/v1/events", deep}, {"PUT", "/v1/events", long}, {"PUT", "/v1/pushers/" + strings.Repeat("k", 500), long}} {
		v, errno := Command(api.Request{Method: c[0], Target: c[1], Body: []byte(c[2])}, anna)
		if errno != api.OK {
			t.Fatalf("%s: %d", c[1], errno)
		}
		if r, errno := Request(v, anna); errno != api.OK || r.Method != c[0] || r.Target != c[1] || string(r.Body) != c[2] {
			t.Errorf("%s: %+v, %d", c[1], r, errno)
		}
	}
}

func TestRequestIsItsOwners(t *testing.T) { // P3
	command := valueOf(t, `{"do":"event","event":{"a":[1,2,3]}}`)
	one, _ := Request(command, anna)
	two, _ := Request(command, anna)
	spare := one.Body[:cap(one.Body)]
	for i := range spare {
		spare[i] = '#'
	}
	if string(two.Body) != `{"a":[1,2,3]}` || command.Print() != `{"do":"event","event":{"a":[1,2,3]}}` {
		t.Errorf("%s, %s", two.Body, command.Print())
	}
	if three, _ := Request(command, anna); string(three.Body) != `{"a":[1,2,3]}` {
		t.Errorf("%s", three.Body)
	}
}

func TestCommandKeepsNothing(t *testing.T) { // P3: the body is the caller's
	body := []byte(`{"key":"value"}`)
	v, _ := Command(api.Request{Method: "PUT", Target: "/v1/rules/a/b", Body: body}, anna)
	clear(body)
	if want := `{"do":"put_rule","id":"b","kind":"a","rule":{"key":"value"},"user":"@a:home"}`; v.Print() != want {
		t.Errorf("%s", v.Print())
	}
}
