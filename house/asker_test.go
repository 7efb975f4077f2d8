package house

import (
	"encoding/base64"
	"fmt"
	"math/rand"
	"regexp"
	"strings"
)

// An asker makes requests by chance, most of them near to what may be. It learns from what is answered: tokens, and places of feeds.
type asker struct {
	rnd    *rand.Rand
	tokens []string
	places []string
	events int // how many names of events there were
	now    int
}

func newAsker(rnd *rand.Rand) *asker { return &asker{rnd: rnd, places: []string{"", "0", "1"}} }

func (a *asker) one(of ...string) string { return of[a.rnd.Intn(len(of))] }

func (a *asker) chance(percent int) bool { return a.rnd.Intn(100) < percent }

var (
	aToken = regexp.MustCompile(`"token":"([^"]+)"`)
	aPlace = regexp.MustCompile(`"next":"([^"]+)"`)
)

// learn looks at bytes that went out.
func (a *asker) learn(b []byte) {
	for _, m := range aToken.FindAllSubmatch(b, -1) {
		a.tokens = append(a.tokens, string(m[1]))
	}
	for _, m := range aPlace.FindAllSubmatch(b, -1) {
		a.places = append(a.places, string(m[1]))
	}
}

// whose is the user of a token, by the library's means.
func whose(token string) string {
	b, err := base64.RawURLEncoding.DecodeString(token)
	if err != nil || len(b) == 0 || int(b[0]) >= len(b) {
		return ""
	}
	return string(b[1 : 1+b[0]])
}

func (a *asker) user() string { return a.one(anna, bea, anna, bea, "@d:home", away, clock, usher) }

// tokenOf is one of a user, a late one most likely; if there is none, nothing.
func (a *asker) tokenOf(user string) string {
	for i := len(a.tokens) - 1; i >= 0; i-- {
		if whose(a.tokens[i]) == user && !a.chance(6) {
			return a.tokens[i]
		}
	}
	return ""
}

// request is one as bytes.
func (a *asker) request() string {
	r := a.plain()
	switch {
	case a.chance(2):
		return asLast(r)
	case a.chance(1):
		return "GET  / HTTP/1.1\r\n"
	case a.chance(1):
		i := a.rnd.Intn(len(r))
		return r[:i] + a.one("\x00", " ", "\r", "\n", "x") + r[i:]
	}
	return r
}

func (a *asker) plain() string {
	switch n := a.rnd.Intn(100); {
	case n < 14:
		return a.login()
	case n < 17:
		token := a.tokenOf(a.user())
		return asking(a.one("POST", "POST", "GET"), "/v1/logout", token, a.one("", "x"))
	case n < 30:
		return asking(a.one("GET", "GET", "GET", "GET", "PUT"), "/v1/feed"+a.one("", "?since="+a.places[a.rnd.Intn(len(a.places))], "?since="+a.places[len(a.places)-1], "?since=7", "?x"), a.tokenOf(a.user()), "")
	case n < 60:
		return a.event()
	case n < 72:
		return a.tick()
	case n < 74:
		return asking("POST", "/v1/attempts/"+fmt.Sprint(a.rnd.Intn(9)), a.tokenOf(a.one(usher, usher, clock)), a.one(`"ok"`, `"fail"`, `"rejected"`, `"x"`))
	case n < 76:
		return asking("PUT", "/v1/x", a.tokenOf(a.user()), a.one("\xff", strings.Repeat("a", 4000), strings.Repeat(`"`, 2500), strings.Repeat("a", 6001)))
	}
	return a.command()
}

func (a *asker) login() string {
	user := a.user()
	body := loginBody(user)
	if a.chance(20) {
		body = a.one("", "x", "{}", loginBody("@x"), strings.Replace(body, "a", "b", 1), `{"user":"`+user+`"}`, `{"proof":"","user":"`+user+`"}`)
	}
	return asking(a.one("POST", "POST", "POST", "POST", "GET"), "/v1/login", a.one("", "x"), body)
}

func (a *asker) event() string {
	user := a.one(anna, bea, anna, bea, "@d:home", away)
	a.events++
	id := fmt.Sprint("$", a.events-a.rnd.Intn(2)*a.rnd.Intn(2)*a.rnd.Intn(5))
	room := a.one("!r:home", "!r:home", "!s:home", "!t")
	e := a.one(member(id, room, user, "join"), member(id, room, user, "join"), member(id, room, user, "leave"), message(id, room, user, "hello b and d"), message(id, room, user, "x"), message(id, room, user, "y"),
		event(id, room, user, "m.room.redaction", fmt.Sprintf(`"redacts":"$%d","content":{}`, a.rnd.Intn(a.events+1))))
	if a.chance(6) {
		e = a.one("x", "[]", "{}", `{"sender":"`+user+`"}`, message(id, room, "@z:home", "x"))
	}
	return asking("PUT", "/v1/events", a.tokenOf(user), e)
}

func (a *asker) tick() string {
	a.now += a.rnd.Intn(30)
	if a.chance(2) {
		a.now += 400
	}
	now := a.now
	if a.chance(10) {
		now -= 40
	}
	return asking("POST", "/v1/tick", a.tokenOf(a.one(clock, clock, clock, clock, anna)), a.one(fmt.Sprint(now), fmt.Sprint(now), fmt.Sprint(now), "x"))
}

func (a *asker) command() string {
	token := a.tokenOf(a.user())
	room := a.one("!r:home", "!s:home", "!t", "!u", "x")
	switch a.rnd.Intn(10) {
	case 0:
		return asking("GET", "/v1/counts?room="+room, token, "")
	case 1:
		return asking("GET", "/v1/counts", token, a.one("", "", "1"))
	case 2, 3:
		return asking("POST", "/v1/rooms/"+room+"/receipt/$"+fmt.Sprint(a.rnd.Intn(a.events+2)), token, "")
	case 4:
		return asking("PUT", "/v1/rules/content/"+a.one("a", "b"), token, a.one(`{"actions":["notify",{"set_tweak":"highlight"}],"pattern":"hello"}`, `{"actions":[],"pattern":"x"}`, `{}`))
	case 5:
		return asking("PUT", "/v1/pushers/"+a.one("k", "l"), token, `"full"`)
	case 6:
		return asking("GET", "/v1/"+a.one("rules", "pushers", "what", "rooms/"+room), token, "")
	case 7:
		return asking("POST", "/v1/rotate", a.tokenOf(a.one(clock, clock, anna)), "")
	case 8:
		return asking("DELETE", "/v1/"+a.one("rules/content/a", "pushers/k", "counts", "rules/override/.master"), token, "")
	}
	return asking("PUT", "/v1/rules/override/.master/enabled", token, a.one("true", "false", "1"))
}
