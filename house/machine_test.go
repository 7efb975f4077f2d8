package house

import (
	"fmt"
	"strings"
	"testing"

	"tocsin/api"
	"tocsin/digest"
)

func TestLogin(t *testing.T) { // the machine, 1
	t.Parallel()
	d := newDesk(t)
	long := "@" + strings.Repeat("a", 54) + ":home" // 60 bytes
	for _, k := range []struct{ method, body, want string }{
		{"GET", loginBody(anna), failed(405, 191)},
		{"GET", "", failed(405, 191)},
		{"post", loginBody(anna), failed(405, 191)},
		{"PUT", loginBody(anna), failed(405, 191)},
		{"POST", "", failed(400, 140)},
		{"POST", "x", failed(400, 140)},
		{"POST", "null", failed(400, 140)},
		{"POST", `"` + anna + `"`, failed(400, 140)},
		{"POST", `[]`, failed(400, 140)},
		{"POST", `{}`, failed(400, 140)},
		{"POST", loginBody(anna) + "x", failed(400, 140)},
		{"POST", `{"user":"@a:home"}`, failed(400, 140)},
		{"POST", `{"proof":"` + proofOf(anna) + `"}`, failed(400, 140)},
		{"POST", `{"proof":1,"user":"@a:home"}`, failed(400, 140)},
		{"POST", `{"proof":null,"user":"x"}`, failed(400, 140)},
		{"POST", `{"proof":"` + proofOf(anna) + `","user":["@a:home"]}`, failed(400, 140)},
		{"POST", `{"proof":"x","user":""}`, failed(400, 92)},
		{"POST", `{"proof":"x","user":"a:home"}`, failed(400, 92)},
		{"POST", loginBody("@a"), failed(400, 92)}, // though the proof is right
		{"POST", loginBody("@A:home"), failed(400, 92)},
		{"POST", loginBody("a" + long), failed(400, 92)},
		{"POST", loginBody("@a" + long[1:]), failed(400, 92)},
		{"POST", `{"proof":"","user":"@a:home"}`, failed(401, 170)},
		{"POST", `{"proof":"` + proofOf(bea) + `","user":"@a:home"}`, failed(401, 170)},
		{"POST", `{"proof":"` + strings.ToUpper(proofOf(anna)) + `","user":"@a:home"}`, failed(401, 170)},
		{"POST", `{"proof":"` + proofOf(anna) + `0","user":"@a:home"}`, failed(401, 170)},
		{"POST", `{"proof":"` + proofOf(anna)[1:] + `","user":"@a:home"}`, failed(401, 170)},
		{"POST", `{"proof":"` + proofOf(anna)[:63] + `","user":"@a:home"}`, failed(401, 170)},
	} {
		same(t, "login: "+k.method+" "+k.body, d.ask(k.method, "/v1/login", "", k.body), k.want)
	}
	for i := range 64 { // each sign of the proof counts
		wrong := []byte(proofOf(anna))
		wrong[i] ^= 1
		same(t, "login with a wrong proof", d.ask("POST", "/v1/login", "", fmt.Sprintf(`{"proof":"%s","user":"@a:home"}`, wrong)), failed(401, 170))
	}
	if d.machine.guests != nil {
		t.Errorf("guests who were given no token: %q", d.machine.guests)
	}
	for _, user := range []string{anna, away, long, clock} {
		d.login(user)
	}
	if s := d.ask("POST", "/v1/login", "nonsense", " {\"x\":[1], \"user\":\"@b:home\",\n\"proof\":\""+proofOf(bea)+"\"}"); !strings.HasPrefix(s, `200 {"ok":true,"token":"`) {
		t.Errorf("login with members more, and with a token that is none: %s", s)
	}
	if one, two := d.login(anna), d.login(anna); one == two {
		t.Error("the same token twice")
	}
}

func TestProofUnderAnotherKey(t *testing.T) { // the machine, 1 and 2
	d := newDesk(t)
	mac := digest.Mac([]byte("another key of mine"), []byte("login "+anna))
	body := fmt.Sprintf(`{"proof":"%s","user":"@a:home"}`, digest.Hex(mac[:]))
	same(t, "a proof under another key", d.ask("POST", "/v1/login", "", body), failed(401, 170))
	mac = digest.Mac([]byte(secret), []byte("login"+anna))
	body = fmt.Sprintf(`{"proof":"%s","user":"@a:home"}`, digest.Hex(mac[:]))
	same(t, "a proof without the blank", d.ask("POST", "/v1/login", "", body), failed(401, 170))
	m, errno := newMachine([]byte("another key of mine"))
	same(t, "a machine", errno, api.OK)
	token, _ := m.keeper.Issue(anna, 0)
	same(t, "a token under another key", d.ask("GET", "/v1/counts", token, ""), failed(401, 170))
}

func TestTokens(t *testing.T) { // the machine, 2
	t.Parallel()
	d := newDesk(t)
	for _, target := range []string{"/v1/counts", "/v1/logout", "/v1/feed", "/v1/feed?since=9", "/v1/what", "/", "/v1/login?", "/v1/login/", "/v1/Login", "/login", "/v1/log%69n"} {
		for _, token := range []string{"", "AAAA", "x y"} {
			same(t, "without a token: "+target, d.ask("GET", target, token, ""), failed(401, 170))
		}
	}
	c := d.login(clock)
	a := d.login(anna)
	same(t, "a login with more behind it", d.ask("POST", "/v1/login?", a, loginBody(anna)), failed(404, 190))
	same(t, "a login with more behind it", d.ask("POST", "/v1/login/", a, loginBody(anna)), failed(404, 190))
	same(t, "tick", d.ask("POST", "/v1/tick", c, "999"), `200 {"attempts":[],"ok":true}`)
	same(t, "on its last day", d.ask("GET", "/v1/counts", a, ""), `200 {"ok":true,"rooms":[]}`)
	same(t, "tick", d.ask("POST", "/v1/tick", c, "1000"), `200 {"attempts":[],"ok":true}`)
	same(t, "behind it", d.ask("GET", "/v1/counts", a, ""), failed(401, 171))
	same(t, "behind it, logout", d.ask("POST", "/v1/logout", a, ""), failed(401, 171))
	same(t, "behind it, by another method", d.ask("GET", "/v1/logout", a, ""), failed(401, 171))
	a = d.login(anna)
	same(t, "a new one", d.ask("GET", "/v1/counts", a, ""), `200 {"ok":true,"rooms":[]}`)
	for i := range a {
		wrong := []byte(a)
		wrong[i] = 'A' + (wrong[i]-'A'+1)%26
		if s := d.ask("GET", "/v1/counts", string(wrong), ""); s != failed(401, 170) {
			t.Errorf("a token with another sign at %d: %s", i, s)
		}
	}
}

func TestTimeIsTheClocks(t *testing.T) { // the machine, 6: now
	t.Parallel()
	d := newDesk(t)
	c, a := d.login(clock), d.login(anna)
	same(t, "tick", d.ask("POST", "/v1/tick", c, "1"), `200 {"attempts":[],"ok":true}`)
	for _, k := range []struct{ token, body, want string }{
		{a, "5000", failed(403, 91)},
		{a, "x", failed(400, 140)}, // it is no command, ahead of whose it is
		{c, "0", failed(409, 141)},
		{c, "-5", failed(409, 141)},
		{c, "1000000001", failed(409, 141)},
		{c, `"5000"`, failed(400, 140)},
		{c, "1.5", failed(400, 140)},
	} {
		same(t, "tick "+k.body, d.ask("POST", "/v1/tick", k.token, k.body), k.want)
	}
	same(t, "tick by another method", d.ask("PUT", "/v1/tick", c, "5000"), failed(405, 191))
	// had one of these moved the time on, this token would last longer, or be over
	b := d.login(bea)
	same(t, "tick", d.ask("POST", "/v1/tick", c, "999"), `200 {"attempts":[],"ok":true}`)
	same(t, "given at 0", d.ask("GET", "/v1/counts", a, ""), `200 {"ok":true,"rooms":[]}`)
	c = d.login(clock)
	same(t, "tick", d.ask("POST", "/v1/tick", c, "1000"), `200 {"attempts":[],"ok":true}`)
	same(t, "given at 0", d.ask("GET", "/v1/counts", a, ""), failed(401, 171))
	same(t, "given at 1", d.ask("GET", "/v1/counts", b, ""), `200 {"ok":true,"rooms":[]}`)
	same(t, "tick", d.ask("POST", "/v1/tick", c, "1001"), `200 {"attempts":[],"ok":true}`)
	same(t, "given at 1", d.ask("GET", "/v1/counts", b, ""), failed(401, 171))
	same(t, "the last tick of all", d.ask("POST", "/v1/tick", c, "1000000000"), `200 {"attempts":[],"ok":true}`)
	same(t, "behind it", d.ask("POST", "/v1/tick", c, "1000000000"), failed(401, 171))
	same(t, "behind it", d.ask("POST", "/v1/tick", d.login(clock), "1000000000"), `200 {"attempts":[],"ok":true}`)
}

func TestLogout(t *testing.T) { // the machine, 3
	t.Parallel()
	d := newDesk(t)
	one, two := d.login(anna), d.login(anna)
	for _, method := range []string{"GET", "DELETE", "post"} {
		same(t, "logout by "+method, d.ask(method, "/v1/logout", one, ""), failed(405, 191))
	}
	same(t, "logout with more behind it", d.ask("POST", "/v1/logout?", one, ""), failed(404, 190))
	same(t, "still in", d.ask("GET", "/v1/counts", one, ""), `200 {"ok":true,"rooms":[]}`)
	same(t, "logout", d.ask("POST", "/v1/logout", one, "whatever stands here"), fine)
	same(t, "again", d.ask("POST", "/v1/logout", one, ""), failed(401, 172))
	same(t, "out", d.ask("GET", "/v1/counts", one, ""), failed(401, 172))
	same(t, "the other token", d.ask("GET", "/v1/counts", two, ""), `200 {"ok":true,"rooms":[]}`)
}

func TestHowOften(t *testing.T) { // the machine, 4
	t.Parallel()
	d := newDesk(t)
	a, b, c := d.login(anna), d.login(bea), d.login(clock)
	spare := d.login(anna) // one more token does not let one ask more
	same(t, "tick", d.ask("POST", "/v1/tick", c, "100"), `200 {"attempts":[],"ok":true}`)
	for _, k := range []struct{ method, target, want string }{ // whatever becomes of it
		{"GET", "/v1/counts", `200 {"ok":true,"rooms":[]}`},
		{"GET", "/v1/what", failed(404, 190)},
		{"PUT", "/v1/feed", failed(405, 191)},
		{"GET", "/v1/feed?since=x", failed(410, 200)},
		{"GET", "/v1/feed", `200 {"changed":[],"gone":[],"next":"0","ok":true,"whole":true}`},
		{"POST", "/v1/rotate", failed(403, 91)},
	} {
		same(t, k.method+k.target, d.ask(k.method, k.target, a, ""), k.want)
	}
	for range 14 {
		same(t, "logout by another method", d.ask("GET", "/v1/logout", a, ""), failed(405, 191)) // does not count
		same(t, "counts", d.ask("GET", "/v1/counts", a, ""), `200 {"ok":true,"rooms":[]}`)
	}
	late := func(ticks int) string { return fmt.Sprint(failed(429, 173), " retry-after ", ticks) }
	for _, target := range []string{"/v1/counts", "/v1/what", "/v1/feed", "/v1/feed?since=x"} { // ahead of all that might be said of it
		same(t, "too often: "+target, d.ask("GET", target, a, ""), late(2))
		same(t, "too often: "+target, d.ask("PUT", target, spare, "x"), late(2))
	}
	same(t, "another user", d.ask("GET", "/v1/counts", b, ""), `200 {"ok":true,"rooms":[]}`)
	same(t, "tick", d.ask("POST", "/v1/tick", c, "101"), `200 {"attempts":[],"ok":true}`)
	same(t, "too soon", d.ask("GET", "/v1/counts", a, ""), late(1))
	same(t, "tick", d.ask("POST", "/v1/tick", c, "102"), `200 {"attempts":[],"ok":true}`)
	same(t, "in time", d.ask("GET", "/v1/counts", a, ""), `200 {"ok":true,"rooms":[]}`)
	same(t, "too often", d.ask("GET", "/v1/counts", a, ""), late(2))
	same(t, "login is not counted", d.login(anna) != "", true)
	same(t, "nor is logout", d.ask("POST", "/v1/logout", a, ""), fine)
	same(t, "who is out", d.ask("GET", "/v1/counts", a, ""), failed(401, 172))
	same(t, "too often, with another token", d.ask("GET", "/v1/counts", spare, ""), late(2))
}

// The whole of the response of one who asks too often.
func TestRetryAfter(t *testing.T) { // the machine, 4
	d := newDesk(t)
	a := d.login(anna)
	for range 20 {
		d.ask("GET", "/v1/counts", a, "")
	}
	d.send(d.conn, asLast(asking("GET", "/v1/counts", a, "")))
	d.play()
	b, ends, _ := d.Out(d.conn)
	want := "HTTP/1.1 429 Too Many Requests\r\ncontent-type: application/json\r\nretry-after: 2\r\ncontent-length: 13\r\nconnection: close\r\n\r\n{\"error\":173}"
	if string(b) != want || !ends {
		t.Errorf("M4: %q, %t, want %q", b, ends, want)
	}
}

func TestFeed(t *testing.T) { // the machine, 5
	t.Parallel()
	d := newDesk(t)
	a, b, c := d.login(anna), d.login(bea), d.login(away)
	feeds := func(what, place, token, want string) {
		t.Helper()
		same(t, what, d.ask("GET", "/v1/feed"+place, token, ""), want)
	}
	sheet := func(changed, gone, next string, whole bool) string {
		return fmt.Sprintf(`200 {"changed":[%s],"gone":[%s],"next":"%s","ok":true,"whole":%t}`, changed, gone, next, whole)
	}
	count := func(room string, unread, highlight int) string {
		return fmt.Sprintf(`{"highlight":%d,"room":"%s","unread":%d}`, highlight, room, unread)
	}
	put := func(token, event string) {
		t.Helper()
		if s := d.ask("PUT", "/v1/events", token, event); !strings.HasPrefix(s, `200 {"ok":true,`) {
			t.Fatalf("%s: %s", event, s)
		}
	}
	feeds("nothing yet", "", b, sheet("", "", "0", true))
	put(a, member("$1", "!r:home", anna, "join"))
	put(b, member("$2", "!r:home", bea, "join"))
	put(b, member("$3", "!q:home", bea, "join"))
	put(c, member("$4", "!r:home", away, "join"))
	put(a, message("$5", "!r:home", anna, "hello b"))
	feeds("all", "", b, sheet(count("!q:home", 0, 0)+","+count("!r:home", 1, 1), "", "3", true))
	feeds("since nothing", "?since=", b, sheet(count("!q:home", 0, 0)+","+count("!r:home", 1, 1), "", "3", true))
	feeds("since 0", "?since=0", b, sheet(count("!q:home", 0, 0)+","+count("!r:home", 1, 1), "", "3", false))
	feeds("since 2", "?since=2", b, sheet(count("!r:home", 1, 1), "", "3", false))
	feeds("since 3", "?since=3", b, sheet("", "", "3", false))
	for _, place := range []string{"4", "03", "%33", "3&x=1", "3?since=3", "x", "+3", "-1"} { // as it stands there
		feeds("since "+place, "?since="+place, b, failed(410, 200))
	}
	put(b, member("$6", "!r:home", bea, "leave"))
	feeds("behind a leave", "?since=3", b, sheet("", `"!r:home"`, "4", false))
	same(t, "a body does not count", d.ask("GET", "/v1/feed?since=3", b, "x"), sheet("", `"!r:home"`, "4", false))
	feeds("another user", "", a, sheet(count("!r:home", 0, 0), "", "1", true))
	feeds("who is not local", "", c, sheet("", "", "0", true))
	for _, target := range []string{"?", "?since", "?Since=3", "?x=1&since=3", "/", "s", "?sinc%65=3"} {
		feeds("no feed", target, a, failed(404, 190))
	}
	for _, method := range []string{"POST", "PUT", "get", "HEAD2"} {
		same(t, "by "+method, d.ask(method, "/v1/feed", a, ""), failed(405, 191))
		same(t, "by "+method, d.ask(method, "/v1/feed?since=x", a, ""), failed(405, 191))
	}
}

// TestWhenSheetsArePut: a guest's sheet is put with the next command that may change something, be it refused or not.
func TestWhenSheetsArePut(t *testing.T) { // the machine, 5 and 6
	t.Parallel()
	const empty = `200 {"changed":[],"gone":[],"next":"0","ok":true,"whole":true}`
	const put = `200 {"changed":[{"highlight":0,"room":"!r:home","unread":0}],"gone":[],"next":"1","ok":true,"whole":true}`
	for _, k := range []struct{ user, method, target, body, want, sheet string }{
		{anna, "GET", "/v1/counts", "", `200 {"ok":true,"rooms":[{"highlight":0,"room":"!s:home","unread":0}]}`, empty},
		{anna, "GET", "/v1/pushers", "", `200 {"ok":true,"pushers":[]}`, empty},
		{anna, "GET", "/v1/rooms/!x", "", failed(404, 2), empty},
		{anna, "GET", "/v1/what", "", failed(404, 190), empty},
		{anna, "PUT", "/v1/events", message("$9", "!r:home", bea, "x"), failed(403, 91), empty},
		{anna, "PUT", "/v1/events", "x", failed(400, 140), empty},
		{anna, "POST", "/v1/tick", "7", failed(403, 91), empty},
		{anna, "POST", "/v1/rotate", "", failed(403, 91), empty},
		{anna, "POST", "/v1/attempts/1", `"ok"`, failed(403, 91), empty},
		{anna, "POST", "/v1/logout", "", fine, empty},
		{anna, "PUT", "/v1/events", member("$1", "!r:home", anna, "join"), failed(409, 110), put},
		{anna, "PUT", "/v1/events", `{"sender":"@a:home"}`, failed(400, 90), put},
		{anna, "PUT", "/v1/pushers/k", `"full"`, fine, put},
		{anna, "DELETE", "/v1/pushers/k", "", failed(404, 131), put},
		{anna, "PUT", "/v1/rules/x/y", "{}", failed(400, 80), put},
		{anna, "POST", "/v1/rooms/!s:home/receipt/$1", "", `200 {"changed":true,"ok":true}`, put},
		{anna, "POST", "/v1/rooms/!s:home/receipt/$8", "", `200 {"changed":false,"ok":true}`, put},
		{away, "PUT", "/v1/pushers/k", `"full"`, failed(403, 91), put},
		{clock, "POST", "/v1/tick", "0", `200 {"attempts":[],"ok":true}`, put},
		{clock, "POST", "/v1/tick", "-1", failed(409, 141), put},
		{clock, "POST", "/v1/rotate", "", `200 {"kept":0,"ok":true}`, put},
		{usher, "POST", "/v1/attempts/1", `"ok"`, failed(404, 132), put},
	} {
		d := newDesk(t)
		a := d.login(anna)
		d.ask("PUT", "/v1/events", a, member("$1", "!s:home", anna, "join"))
		d.ask("PUT", "/v1/events", a, event("$2", "!r:home", anna, "m.room.member", `"state_key":"@b:home","content":{"membership":"join"}`))
		b, token := d.login(bea), d.login(k.user)
		same(t, "the feed of a guest who has just come", d.ask("GET", "/v1/feed", b, ""), empty)
		what := k.user + " " + k.method + " " + k.target + " " + k.body
		same(t, what, d.ask(k.method, k.target, token, k.body), k.want)
		same(t, "the feed behind "+what, d.ask("GET", "/v1/feed", b, ""), k.sheet)
	}
}

func TestWhoMayAskForWhat(t *testing.T) { // the machine, 6
	t.Parallel()
	d := newDesk(t)
	tokens := map[string]string{}
	for _, user := range []string{anna, away, clock, usher} {
		tokens[user] = d.login(user)
	}
	foreign := failed(403, 91)
	for i, k := range []struct{ user, method, target, body, want string }{
		{anna, "PUT", "/v1/events", message("$1", "!r", bea, "x"), foreign},
		{anna, "PUT", "/v1/events", message("$1", "!r", "@a:home ", "x"), foreign},
		{clock, "PUT", "/v1/events", message("$1", "!r", anna, "x"), foreign},
		{anna, "PUT", "/v1/events", `{}`, foreign},
		{anna, "PUT", "/v1/events", `{"Sender":"@a:home"}`, foreign},
		{anna, "PUT", "/v1/events", `{"sender":null}`, foreign},
		{anna, "PUT", "/v1/events", `{"sender":["@a:home"]}`, foreign},
		{anna, "PUT", "/v1/events", `{"sender":{"sender":"@a:home"}}`, foreign},
		{anna, "PUT", "/v1/events", `{"sender":""}`, foreign},
		{anna, "PUT", "/v1/events", `null`, foreign},
		{anna, "PUT", "/v1/events", `7`, foreign},
		{anna, "PUT", "/v1/events", `"@a:home"`, foreign},
		{anna, "PUT", "/v1/events", `["sender","@a:home"]`, foreign},
		{anna, "PUT", "/v1/events", `{"sender":"@a:home"}`, failed(400, 90)},
		{anna, "PUT", "/v1/events", `{"sender":"\u0040a:home"}`, failed(400, 90)},
		{anna, "PUT", "/v1/events", `{"sender":`, failed(400, 140)},
		{anna, "PUT", "/v1/events", ``, failed(400, 140)},
		{anna, "POST", "/v1/events", message("$1", "!r", bea, "x"), failed(405, 191)},
		{anna, "PUT", "/v1/events", message("$1", "!r", anna, "x"), `200 {"ok":true,"place":1,"told":[]}`},
		{away, "PUT", "/v1/events", message("$2", "!r", away, "x"), `200 {"ok":true,"place":2,"told":[]}`},
		{anna, "POST", "/v1/tick", "5", foreign},
		{usher, "POST", "/v1/tick", "5", foreign},
		{anna, "POST", "/v1/tick", `"5"`, failed(400, 140)},
		{anna, "POST", "/v1/rotate", "", foreign},
		{usher, "POST", "/v1/rotate", "", foreign},
		{anna, "POST", "/v1/rotate", "5", failed(400, 140)},
		{clock, "POST", "/v1/rotate", "", `200 {"kept":0,"ok":true}`},
		{anna, "POST", "/v1/attempts/1", `"ok"`, foreign},
		{clock, "POST", "/v1/attempts/1", `"ok"`, foreign},
		{anna, "POST", "/v1/attempts/01", `"ok"`, failed(404, 190)},
		{usher, "POST", "/v1/attempts/1", `"ok"`, failed(404, 132)},
		{anna, "GET", "/v1/rooms/!x", "", failed(404, 2)},
		{away, "GET", "/v1/counts", "", foreign}, // by the engine
		{away, "PUT", "/v1/pushers/k", `"full"`, foreign},
		{anna, "GET", "/v1/counts?room=x", "", failed(400, 92)},
		{anna, "GET", "/v1/counts?user=@b:home", "", failed(404, 190)},
		{anna, "GET", "/v2/counts", "", failed(404, 190)},
		{anna, "PUT", "/v1/counts", "", failed(405, 191)},
		{clock, "POST", "/v1/tick", "900", `200 {"attempts":[],"ok":true}`},
	} {
		same(t, k.user+" "+k.method+" "+k.target+" "+k.body, d.ask(k.method, k.target, tokens[k.user], k.body), k.want)
		d.ask("POST", "/v1/tick", tokens[clock], fmt.Sprint(10*i+10)) // so that nobody asks too often
	}
}

// TestService goes through what a client does, up to a pusher's reply.
func TestService(t *testing.T) { // M9
	t.Parallel()
	d := newDesk(t)
	a, b, c, g := d.login(anna), d.login(bea), d.login(clock), d.login(usher)
	told := func(user, rule string, notify, highlight bool, sound string) string {
		return fmt.Sprintf(`{"highlight":%t,"notify":%t,"rule":"%s","sound":"%s","user":"%s"}`, highlight, notify, rule, sound, user)
	}
	payload := `{\"counts\":{\"unread\":1},\"event\":{\"content\":{\"body\":\"hello\"},\"event_id\":\"$3\",\"room_id\":\"!r:home\",\"sender\":\"@a:home\",\"type\":\"m.room.message\"},\"tweaks\":{\"sound\":\"default\"}}`
	for _, k := range []struct{ token, method, target, body, want string }{
		{a, "PUT", "/v1/events", member("$1", "!r:home", anna, "join"), `200 {"ok":true,"place":1,"told":[]}`},
		{b, "PUT", "/v1/events", member("$2", "!r:home", bea, "join"), `200 {"ok":true,"place":2,"told":[` + told(anna, "override/.member", false, false, "") + `]}`},
		{b, "PUT", "/v1/pushers/k%2F1", `"full"`, fine},
		{a, "PUT", "/v1/events", message("$3", "!r:home", anna, "hello"), `200 {"ok":true,"place":3,"told":[` + told(bea, "underride/.pair", true, false, "default") + `]}`},
		{a, "PUT", "/v1/events", message("$3", "!r:home", anna, "hello"), failed(409, 110)},
		{b, "GET", "/v1/counts?room=!r:home", "", `200 {"highlight":0,"ok":true,"unread":1}`},
		{a, "PUT", "/v1/events", message("$4", "!r:home", anna, "hello B!"), `200 {"ok":true,"place":4,"told":[` + told(bea, "content/.localpart", true, true, "default") + `]}`},
		{b, "GET", "/v1/counts", "", `200 {"ok":true,"rooms":[{"highlight":1,"room":"!r:home","unread":2}]}`},
		{b, "GET", "/v1/feed", "", `200 {"changed":[{"highlight":1,"room":"!r:home","unread":2}],"gone":[],"next":"3","ok":true,"whole":true}`},
		{b, "POST", "/v1/rooms/!r:home/receipt/$3", "", `200 {"changed":true,"ok":true}`},
		{b, "GET", "/v1/feed?since=3", "", `200 {"changed":[{"highlight":1,"room":"!r:home","unread":1}],"gone":[],"next":"4","ok":true,"whole":false}`},
		{a, "PUT", "/v1/events", event("$5", "!r:home", anna, "m.room.redaction", `"redacts":"$4","content":{}`), `200 {"ok":true,"place":5,"told":[` + told(bea, "", false, false, "") + `]}`},
		{b, "GET", "/v1/counts?room=!r:home", "", `200 {"highlight":0,"ok":true,"unread":0}`},
		{c, "POST", "/v1/tick", "7", `200 {"attempts":[{"id":1,"key":"k/1","payload":"` + payload + `","user":"@b:home"}],"ok":true}`},
		{g, "POST", "/v1/attempts/1", `"fail"`, fine},
		{g, "POST", "/v1/attempts/1", `"ok"`, failed(404, 132)},
		{b, "GET", "/v1/pushers", "", `200 {"ok":true,"pushers":[{"attempt":0,"dropped":0,"failures":1,"format":"full","key":"k/1","until":9,"waits":2}]}`},
		{a, "GET", "/v1/pushers", "", `200 {"ok":true,"pushers":[]}`},
		{b, "POST", "/v1/logout", "", fine},
		{b, "GET", "/v1/counts", "", failed(401, 172)},
	} {
		same(t, k.method+" "+k.target+" "+k.body, d.ask(k.method, k.target, k.token, k.body), k.want)
	}
}

// TestWhatIsNoOrder: it is agreed on, and does nothing; a member more does not matter.
func TestWhatIsNoOrder(t *testing.T) { // the machine; M7
	t.Parallel()
	order := ordered("POST", "/v1/login", "", loginBody(anna))
	h := opened(t, 1, formatted(t, 4000))
	var want []string
	for _, data := range []string{
		"", "x", "null", "[]", "{}", `"` + "text" + `"`, "\xff", order + "x", order[1:], `[` + order + `]`,
		strings.Replace(order, `"body"`, `"Body"`, 1), strings.Replace(order, `"method"`, `"meth"`, 1), strings.Replace(order, `"target"`, `"t"`, 1), strings.Replace(order, `"token"`, `""`, 1),
		strings.Replace(order, `"token":""`, `"token":null`, 1), strings.Replace(order, `"POST"`, `1`, 1), strings.Replace(order, `"/v1/login"`, `["/v1/login"]`, 1),
		strings.Replace(order, `"body":`, `"body":{},"more":`, 1), strings.Replace(order, `{"body"`, `{"body":"","body"`, 1),
	} {
		hearEntry(t, h, len(want), 1, data)
		want = append(want, data)
		if len(h.machine.guests) != 0 {
			t.Fatalf("it has done %q", data)
		}
	}
	for i, data := range []string{order, " " + strings.Replace(order, `{`, `{"a":[1,{"b":null}],"zzz":"", `, 1) + "\n"} {
		hearEntry(t, h, len(want), 1, data)
		want = append(want, data)
		if strings.Join(h.machine.guests, " ") != anna {
			t.Errorf("it has not done %q", data)
		}
		token, _ := h.machine.keeper.Issue(anna, 0) // its number tells how many were given ahead of it
		raw, _ := digest.Decode(token)
		same(t, "tokens given", raw[len(raw)-33], byte(2*(2*i+2)))
	}
	same(t, "M7: Orders", strings.Join(h.Orders(), "|"), strings.Join(want, "|"))
}

// TestEachMemberOfAnOrder: all four must be there, and be Texts.
func TestEachMemberOfAnOrder(t *testing.T) { // the machine
	m, _ := newMachine([]byte(secret))
	like := newPlainMachine()
	answer := holdOrder(t, m, like, ordered("POST", "/v1/login", "", loginBody(anna)))
	token := string(aToken.FindSubmatch(answer)[1])
	all := map[string]string{"body": `""`, "method": `"GET"`, "target": `"/v1/counts"`, "token": `"` + token + `"`}
	for name := range all {
		for _, other := range []string{"", "null", "true", "7", "[]", "{}", `[""]`} {
			var list []string
			for key, value := range all {
				switch {
				case key != name:
					list = append(list, `"`+key+`":`+value)
				case other != "":
					list = append(list, `"`+key+`":`+other)
				}
			}
			data := "{" + strings.Join(list, ",") + "}"
			if _, ok := readOrder([]byte(data)); ok {
				t.Errorf("%s is an order", data)
			}
			holdOrder(t, m, like, data)
		}
	}
	for range 20 { // none of these has counted
		if answer := holdOrder(t, m, like, ordered("GET", "/v1/counts", token, "")); !strings.HasPrefix(string(answer), "HTTP/1.1 200 ") {
			t.Errorf("%q", answer)
		}
	}
}

// hearEntry lets a house hear that the next entry is agreed on.
func hearEntry(t testing.TB, h *House, last, term int, data string) {
	t.Helper()
	before := 0
	if last > 0 {
		before = 1
	}
	l := api.Letter{From: 0, To: h.id, Kind: api.Append, Term: term, Index: last, Before: before, Agreed: last + 1, Entries: []api.Entry{{Term: term, Data: []byte(data)}}}
	if errno := h.Hear(l); errno != api.OK {
		t.Fatalf("M5: Hear %+v: error %d", l, errno)
	}
}
