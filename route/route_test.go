package route

import (
	"strings"
	"testing"

	"tocsin/api"
	"tocsin/jsonval"
)

// documentRows: each row of the table, as it stands there.
var documentRows = []struct{ method, target, body, command string }{
	{"PUT", "/v1/events", `{"type":"x"}`, `{"do":"event","event":{"type":"x"}}`},
	{"PUT", "/v1/events", `null`, `{"do":"event","event":null}`},
	{"PUT", "/v1/events", `false`, `{"do":"event","event":false}`},
	{"PUT", "/v1/events", `3`, `{"do":"event","event":3}`},
	{"PUT", "/v1/events", `"e"`, `{"do":"event","event":"e"}`},
	{"PUT", "/v1/events", `[]`, `{"do":"event","event":[]}`},
	{"PUT", "/v1/rules/K/I", `{"a":1}`, `{"do":"put_rule","id":"I","kind":"K","rule":{"a":1},"user":"@a:home"}`},
	{"PUT", "/v1/rules/K/I?before=B", `{}`, `{"before":"B","do":"put_rule","id":"I","kind":"K","rule":{},"user":"@a:home"}`},
	{"PUT", "/v1/rules/K/I?after=A", `{}`, `{"after":"A","do":"put_rule","id":"I","kind":"K","rule":{},"user":"@a:home"}`},
	{"PUT", "/v1/rules/K/I?before=B&after=A", `{}`, `{"after":"A","before":"B","do":"put_rule","id":"I","kind":"K","rule":{},"user":"@a:home"}`},
	{"DELETE", "/v1/rules/K/I", ``, `{"do":"delete_rule","id":"I","kind":"K","user":"@a:home"}`},
	{"PUT", "/v1/rules/K/I/enabled", `true`, `{"do":"enable_rule","enabled":true,"id":"I","kind":"K","user":"@a:home"}`},
	{"PUT", "/v1/rules/K/I/actions", `["notify"]`, `{"actions":["notify"],"do":"set_actions","id":"I","kind":"K","user":"@a:home"}`},
	{"GET", "/v1/rules", ``, `{"do":"rules","user":"@a:home"}`},
	{"POST", "/v1/rooms/!R/receipt/$E", ``, `{"do":"receipt","event":"$E","room":"!R","user":"@a:home"}`},
	{"GET", "/v1/counts", ``, `{"do":"counts","user":"@a:home"}`},
	{"GET", "/v1/counts?room=!R", ``, `{"do":"counts","room":"!R","user":"@a:home"}`},
	{"PUT", "/v1/pushers/K", `"full"`, `{"do":"set_pusher","format":"full","key":"K","user":"@a:home"}`},
	{"DELETE", "/v1/pushers/K", ``, `{"do":"remove_pusher","key":"K","user":"@a:home"}`},
	{"GET", "/v1/pushers", ``, `{"do":"pushers","user":"@a:home"}`},
	{"POST", "/v1/tick", `-5`, `{"do":"tick","now":-5}`},
	{"POST", "/v1/attempts/12", `"ok"`, `{"attempt":12,"do":"reply","result":"ok"}`},
	{"POST", "/v1/rotate", ``, `{"do":"rotate"}`},
	{"GET", "/v1/rooms/!R", ``, `{"do":"room","room":"!R"}`},
}

func valueOf(t testing.TB, s string) *jsonval.Value {
	t.Helper()
	v, err := jsonval.Parse([]byte(s))
	if err != nil {
		t.Fatalf("Parse(%q): %v", s, err)
	}
	return v
}

// means tells that a request is a command.
func means(t *testing.T, method, target, body, want string) {
	t.Helper()
	v, errno := Command(api.Request{Method: method, Target: target, Body: []byte(body)}, anna)
	if errno != api.OK || v.Print() != want {
		t.Errorf("Y3: Command of %s %.100s %.60s: %.200s, %d, want %.200s", method, target, body, v.Print(), errno, want)
	}
	ask(t, method, target, body, anna)
}

// refuses tells that a request is none.
func refuses(t *testing.T, method, target, body string, want api.Errno) {
	t.Helper()
	v, errno := Command(api.Request{Method: method, Target: target, Body: []byte(body)}, anna)
	if errno != want || v != nil {
		t.Errorf("Y3: Command of %s %.100s %.60s: %.200s, %d, want %d", method, target, body, v.Print(), errno, want)
	}
	ask(t, method, target, body, anna)
}

func TestRows(t *testing.T) { // Y2, Y4: each row, both ways
	for _, c := range documentRows {
		means(t, c.method, c.target, c.body, c.command)
		r, errno := Request(valueOf(t, c.command), anna)
		if errno != api.OK || r.Method != c.method || r.Target != c.target || string(r.Body) != c.body || len(r.Headers) != 0 || r.Last {
			t.Errorf("Y4: Request of %s: %+v, %d", c.command, r, errno)
		}
	}
}

func TestDocumentExamples(t *testing.T) {
	means(t, "PUT", "/v1/rules/content/a%2Fb?before=x", `{"actions":[],"pattern":"cake"}`, `{"before":"x","do":"put_rule","id":"a/b","kind":"content","rule":{"actions":[],"pattern":"cake"},"user":"@a:home"}`)
	const receipt = `{"do":"receipt","event":"$1","room":"!r:home","user":"@a:home"}`
	means(t, "POST", "/v1/rooms/!r:home/receipt/$1", "", receipt)
	means(t, "POST", "/v1/rooms/%21r%3ahome/receipt/$1", "", receipt)
	if r, errno := Request(valueOf(t, receipt), anna); errno != api.OK || r.Target != "/v1/rooms/!r:home/receipt/$1" {
		t.Errorf("Y4: %+v, %d", r, errno)
	}
	means(t, "GET", "/v1/counts?room=!r", "", `{"do":"counts","room":"!r","user":"@a:home"}`)
	means(t, "GET", "/v1/counts?room=", "", `{"do":"counts","room":"","user":"@a:home"}`)
	for _, target := range []string{"/v1/counts?x=1", "/v1/counts?room=a&room=b", "/v1/counts?", "/v1/count", "/v2/counts", "/v1/counts/"} {
		refuses(t, "GET", target, "", api.ErrRoute)
	}
	refuses(t, "PUT", "/v1/counts", "", api.ErrMethod)
	refuses(t, "DELETE", "/v1/rules/content/x?before=y", "", api.ErrMethod)
	refuses(t, "GET", "/v1/counts", "1", api.ErrCommand)
	refuses(t, "PUT", "/v1/pushers/k", "1", api.ErrCommand)
	refuses(t, "PUT", "/v1/pushers/k", "", api.ErrCommand)
	if r := Response(valueOf(t, `{"error":82}`)); r.Status != 404 {
		t.Errorf("Y5: %+v", r)
	}
	if r := Refused(api.ErrMethod); r.Status != 405 || string(r.Body) != `{"error":191}` {
		t.Errorf("Y5: %+v", r)
	}
}

func TestTargets(t *testing.T) { // Y1
	means(t, "DELETE", "/v1/rules//x", "", `{"do":"delete_rule","id":"x","kind":"","user":"@a:home"}`)
	means(t, "DELETE", "/v1/rules//", "", `{"do":"delete_rule","id":"","kind":"","user":"@a:home"}`)
	means(t, "GET", "/v1/rooms/", "", `{"do":"room","room":""}`)
	means(t, "GET", "/v1/rooms/%2F%3f%26%3d%25", "", `{"do":"room","room":"/?&=%"}`)
	means(t, "GET", "/v1/counts?room=+", "", `{"do":"counts","room":"+","user":"@a:home"}`)
	means(t, "GET", "/v1/c%6Funts?%72%6F%6f%6d=%C3%a9", "", `{"do":"counts","room":"é","user":"@a:home"}`)
	means(t, "PUT", "/v1/rules/a/b?after=1&before=2", "{}", `{"after":"1","before":"2","do":"put_rule","id":"b","kind":"a","rule":{},"user":"@a:home"}`)
	for _, target := range []string{
		"", "/", "/v", "/v1", "v1/counts", "/v1?/counts", "/v1%2Fcounts", "/v1/counts%2F", "%2Fv1/counts", "/%761/counts", " /v1/counts", "/v1/counts ", "/v1/./counts", "/v1/x/../counts", "http://home/v1/counts", "/v1/counts#", "*",
		"/v1/counts?room", "/v1/counts?&room=a", "/v1/counts?room=a&", "/v1/counts?room=a&&", "/v1/counts?room=a=b", "/v1/counts?room=a?b", "/v1/counts??room=a", "/v1/counts?room==", "/v1/counts?room=a/b", "/v1/counts?room=a%3", "/v1/counts?%=a", "/v1/counts?r\x00=a", "/v1/counts?room=%c3", "/v1/counts?%c3=a", "/v1/counts?room%3Da", "/v1/counts?room=a%26room=b&room=c",
	} {
		refuses(t, "GET", target, "", api.ErrRoute)
	}
	// A part that may not be is told, wherever it stands: ahead of the method and the body.
	for _, target := range []string{"/v1/rooms/%zz/receipt/a", "/v1/rooms/a/receipt/%zz", "/v1/%zz/a", "/v1/rooms/%zz", "/v1/rules/a/b?before=1&after=%zz", "/v1/rules/a/b?before=%zz&after=1", "/v1/rules/a/b?before=1&%zz=1"} {
		refuses(t, "NONE", target, "x", api.ErrRoute)
	}
}

func TestLongestTarget(t *testing.T) { // Y3: 512 bytes, as they come
	for _, c := range []struct{ method, begin, body string }{
		{"GET", "/v1/rooms/", ""}, {"DELETE", "/v1/pushers/", ""}, {"GET", "/v1/counts?room=", ""}, {"PUT", "/v1/rules/a/b?before=x&after=", "{}"}, {"PUT", "/v1/rules/a/", "{}"},
	} {
		fill := strings.Repeat("x", 512-len(c.begin))
		ask(t, c.method, c.begin+fill, c.body, anna)
		if _, errno := Command(api.Request{Method: c.method, Target: c.begin + fill, Body: []byte(c.body)}, anna); errno != api.OK {
			t.Errorf("Y3: %s with 512 bytes: %d", c.begin, errno)
		}
		refuses(t, c.method, c.begin+fill+"x", c.body, api.ErrRoute)
		refuses(t, "NONE", c.begin+fill+"x", "x", api.ErrRoute)
		short := fill[:len(fill)-3]
		refuses(t, c.method, c.begin+short+"x%78", c.body, api.ErrRoute) // 513 bytes, though they stand for fewer
		ask(t, c.method, c.begin+short+"%78", c.body, anna)
	}
	means(t, "POST", "/v1/"+strings.Repeat("%72", 1)+"otate", "", `{"do":"rotate"}`)
	refuses(t, "GET", "/v1/rooms/"+strings.Repeat("/", 1<<20), "", api.ErrRoute)
	refuses(t, "GET", "/v1/counts?"+strings.Repeat("room=a&", 1<<18), "", api.ErrRoute)
}

func TestNumbers(t *testing.T) { // Y2: NUMBER
	for s, want := range map[string]string{"0": "0", "1": "1", "9": "9", "10": "10", "%31%30": "10", "9007199254740991": "9007199254740991", "1000000000000000": "1000000000000000"} {
		means(t, "POST", "/v1/attempts/"+s, `"ok"`, `{"attempt":`+want+`,"do":"reply","result":"ok"}`)
	}
	for _, s := range []string{"", "00", "01", "-0", "-1", "+1", "1_0", "0x1", "1e3", "1.0", "1a", "a", "%201", "1%20", "9007199254740992", "9999999999999999", "10000000000000000", "00000000000000001", "18446744073709551616", "18446744073709551617", "9223372036854775808", strings.Repeat("9", 400), "%EF%BC%91", "%D9%A1"} {
		refuses(t, "POST", "/v1/attempts/"+s, `"ok"`, api.ErrRoute)
		refuses(t, "GET", "/v1/attempts/"+s, `"ok"`, api.ErrRoute)
	}
}

func TestOrderOfErrors(t *testing.T) { // Y3, P2
	refuses(t, "NONE", "/v1/none", "x", api.ErrRoute)                         // no row, no method, no body
	refuses(t, "PUT", "/v1/counts?x=1", "x", api.ErrRoute)                    // a name, ahead of the method
	refuses(t, "PUT", "/v1/counts?room=1&room=2", "x", api.ErrRoute)          // twice, ahead of the method
	refuses(t, "DELETE", "/v1/rules/a/b?before=1&before=2", "", api.ErrRoute) // twice, though it is not this method's
	refuses(t, "DELETE", "/v1/rules/a/b?before=1&room=2", "", api.ErrRoute)
	refuses(t, "DELETE", "/v1/rules/a/b?before=1", "x", api.ErrMethod) // ahead of the body
	refuses(t, "DELETE", "/v1/rules/a/b?after=", "", api.ErrMethod)
	refuses(t, "GET", "/v1/rules/a/b?after=", "", api.ErrMethod)
	refuses(t, "GET", "/v1/rules/a/b", "x", api.ErrMethod)
	refuses(t, "PUT", "/v1/rules/a/b?after=", "x", api.ErrCommand)
	refuses(t, "PUT", "/v1/rules/a/b/enabled?before=x", "true", api.ErrRoute) // a name of other segments
	refuses(t, "GET", "/v1/rules?before=x", "", api.ErrRoute)
	refuses(t, "GET", "/v1/rooms/a?room=x", "", api.ErrRoute)
	refuses(t, "PUT", "/v1/counts?room=1", "x", api.ErrMethod)
	for _, r := range modelRows {
		target := "/v1" + strings.NewReplacer("{attempt#}", "1", "{", "", "}", "").Replace(r.path)
		for _, method := range []string{strings.ToLower(r.method), r.method + " ", " " + r.method, r.method + "\x00", "", "HEAD", "OPTIONS"} {
			refuses(t, method, target, "{}", api.ErrMethod)
		}
		refuses(t, r.method, target+"?user=x", "{}", api.ErrRoute)
		refuses(t, r.method, target+"?do=x", "{}", api.ErrRoute)
		refuses(t, r.method, target+"/", "{}", wantBehind(r))
	}
}

// wantBehind tells what a row answers with one empty segment more.
func wantBehind(r modelRow) api.Errno {
	switch r.do {
	case "rules", "put_rule", "delete_rule", "counts", "event", "tick", "rotate", "enable_rule", "set_actions", "receipt", "set_pusher", "remove_pusher", "reply", "room":
		return api.ErrRoute
	}
	return api.ErrMethod // "pushers": a pusher with the empty key, by PUT or DELETE
}

func TestBodies(t *testing.T) { // Y3: of the kind, or none
	values := map[string]string{"null": "null", "bool": "false", "int": "0", "text": `""`, "list": "[]", "object": "{}"}
	for _, r := range modelRows {
		target := "/v1" + strings.NewReplacer("{attempt#}", "1", "{", "", "}", "").Replace(r.path)
		for kind, body := range values {
			want := api.ErrCommand
			if r.kind == kind || r.kind == "any" {
				want = api.OK
			}
			if _, errno := Command(api.Request{Method: r.method, Target: target, Body: []byte(body)}, anna); errno != want {
				t.Errorf("Y3: %s %s %s: %d, want %d", r.method, target, body, errno, want)
			}
			ask(t, r.method, target, body, anna)
		}
		for _, body := range []string{" ", "\n", "x", "\x00", "{}{}", "[1,]", `{"a":1,"a":1}`} {
			refuses(t, r.method, target, body, api.ErrCommand)
		}
		want := api.ErrCommand
		if r.kind == "" {
			want = api.OK
		}
		for _, body := range [][]byte{nil, {}} {
			if v, errno := Command(api.Request{Method: r.method, Target: target, Body: body}, anna); errno != want || (v != nil) != (want == api.OK) {
				t.Errorf("Y3: %s %s without a body: %d, want %d", r.method, target, errno, want)
			}
		}
	}
	// What Parse takes at most is taken: of so many bytes, so deep, so many items.
	deep := strings.Repeat("[", 10) + strings.Repeat("]", 10)
	means(t, "PUT", "/v1/events", deep, `{"do":"event","event":`+deep+`}`)
	refuses(t, "PUT", "/v1/events", "["+deep+"]", api.ErrCommand)
	long := `"` + strings.Repeat("x", 4094) + `"`
	means(t, "PUT", "/v1/pushers/k", long, `{"do":"set_pusher","format":`+long+`,"key":"k","user":"@a:home"}`)
	refuses(t, "PUT", "/v1/pushers/k", long+" ", api.ErrCommand)
	many := "[" + strings.Repeat("1,", 63) + "1]"
	means(t, "PUT", "/v1/rules/a/b/actions", many, `{"actions":`+many+`,"do":"set_actions","id":"b","kind":"a","user":"@a:home"}`)
	refuses(t, "PUT", "/v1/rules/a/b/actions", "[1,"+many[1:], api.ErrCommand)
	means(t, "POST", "/v1/tick", " -0\n", `{"do":"tick","now":0}`)
}

func TestUsers(t *testing.T) { // Y2: any text, as OfText makes it; only where the row has one
	for _, user := range []string{"", "a", "\xff", "\xe2\x82", "é\xc3", "\"\\", strings.Repeat("u", 5000)} {
		for _, c := range documentRows {
			ask(t, c.method, c.target, c.body, user)
		}
	}
	v, errno := Command(api.Request{Method: "GET", Target: "/v1/rules"}, "a\xe2\x82")
	if errno != api.OK || v.Print() != "{\"do\":\"rules\",\"user\":\"a\ufffd\ufffd\"}" {
		t.Errorf("Y3: %s, %d", v.Print(), errno)
	}
	for user, want := range map[string]api.Errno{"a\xe2\x82": api.OK, "a\ufffd\ufffd": api.OK, "a\ufffd\xff": api.OK, "a\ufffd": api.ErrCommand, "a": api.ErrCommand, "": api.ErrCommand} {
		if _, errno := Request(v, user); errno != want {
			t.Errorf("Y4: the user %q: %d, want %d", user, errno, want)
		}
	}
	for _, command := range []string{`{"do":"rotate"}`, `{"do":"room","room":"a"}`, `{"do":"tick","now":1}`, `{"do":"event","event":1}`, `{"do":"reply","attempt":1,"result":""}`} {
		for _, user := range []string{"", "x", anna} {
			if _, errno := Request(valueOf(t, command), user); errno != api.OK {
				t.Errorf("Y4: Request of %s, of %q: %d", command, user, errno)
			}
		}
	}
}

func TestHeadersDoNotCount(t *testing.T) { // Y3
	r := api.Request{Method: "GET", Target: "/v1/rules", Headers: [][2]string{{"content-type", "text/html"}, {"x-http-method-override", "PUT"}, {"content-length", "7"}}, Last: true}
	v, errno := Command(r, anna)
	if errno != api.OK || v.Print() != `{"do":"rules","user":"@a:home"}` {
		t.Errorf("%s, %d", v.Print(), errno)
	}
}
