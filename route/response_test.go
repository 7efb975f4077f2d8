package route

import (
	"math"
	"strconv"
	"testing"

	"tocsin/api"
	"tocsin/jsonval"
)

// statuses: the table of the chapter, by the errors' names.
var statuses = map[api.Errno]int{
	api.ErrToken: 401, api.ErrExpired: 401, api.ErrRevoked: 401,
	api.ErrDefault: 403, api.ErrForeign: 403,
	api.ErrState: 404, api.ErrNoRule: 404, api.ErrUnknown: 404, api.ErrNoPusher: 404, api.ErrAttempt: 404, api.ErrRoute: 404, api.ErrConn: 404,
	api.ErrMethod: 405,
	api.ErrKnown:  409, api.ErrTime: 409,
	api.ErrSince: 410,
	api.ErrSize:  413, api.ErrBody: 413,
	api.ErrMany: 429, api.ErrUsers: 429, api.ErrStream: 429, api.ErrRooms: 429, api.ErrPeople: 429, api.ErrRate: 429,
	api.ErrHead:   431,
	api.ErrCoding: 501,
	api.ErrDead:   503, api.ErrBroken: 503, api.ErrDone: 503, api.ErrLeader: 503, api.ErrBusy: 503,
	api.ErrVersion: 505,
	api.ErrFull:    507,
}

func isResponse(t *testing.T, r api.Response, status int, body string) {
	t.Helper()
	if r.Status != status || string(r.Body) != body || r.Last || len(r.Headers) != 1 || r.Headers[0] != [2]string{"content-type", "application/json"} {
		t.Errorf("Y5: %+v (%s), want %d, %s", r, r.Body, status, body)
	}
}

func TestRefused(t *testing.T) { // Y5: each number
	for n := -300; n < 1000; n++ {
		status, ok := statuses[api.Errno(n)]
		if !ok {
			status = 400
		}
		body := `{"error":` + strconv.Itoa(n) + `}`
		isResponse(t, Refused(api.Errno(n)), status, body)
		isResponse(t, Response(valueOf(t, body)), status, body)
		isResponse(t, Response(valueOf(t, `{"at":7,"error":`+strconv.Itoa(n)+`}`)), status, `{"at":7,"error":`+strconv.Itoa(n)+`}`)
		isResponse(t, Response(valueOf(t, `{"error":"`+strconv.Itoa(n)+`"}`)), 200, `{"error":"`+strconv.Itoa(n)+`"}`)
	}
	for _, n := range []int64{1<<32 + 82, 1<<32 + 2, 1<<16 + 190, 256 + 41, -82, api.MaxInt, -api.MaxInt} {
		isResponse(t, Response(jsonval.OfMap(map[string]*jsonval.Value{"error": jsonval.OfInt(n)})), 400, `{"error":`+strconv.FormatInt(n, 10)+`}`)
	}
	isResponse(t, Refused(math.MaxInt), 400, `{"error":9007199254740991}`)
	isResponse(t, Refused(math.MinInt), 400, `{"error":-9007199254740991}`)
}

func TestResponse(t *testing.T) { // Y5: what tells of no error
	for _, s := range []string{"null", "true", "82", `"error"`, "[]", "[82]", `["error",82]`, "{}", `{"ok":true}`, `{"error":null}`, `{"error":true}`, `{"error":[82]}`, `{"error":{"error":82}}`, `{"Error":82}`, `{"ok":{"error":82}}`, `{"error ":82}`} {
		isResponse(t, Response(valueOf(t, s)), 200, s)
	}
	isResponse(t, Response(nil), 200, "null")
	isResponse(t, Response(&jsonval.Value{}), 200, "null")
	isResponse(t, Response(valueOf(t, ` { "b" : [ 1 ] , "a" : "\u00e9" } `)), 200, `{"a":"é","b":[1]}`)
}

func TestResponseIsItsOwners(t *testing.T) { // P3
	answer := valueOf(t, `{"error":190}`)
	for _, make := range []func() api.Response{func() api.Response { return Response(answer) }, func() api.Response { return Refused(api.ErrRoute) }} {
		one, two := make(), make()
		for i := range one.Headers[:cap(one.Headers)] {
			one.Headers[:cap(one.Headers)][i] = [2]string{"x", "y"}
		}
		for i := range one.Body[:cap(one.Body)] {
			one.Body[:cap(one.Body)][i] = '#'
		}
		isResponse(t, two, 404, `{"error":190}`)
		isResponse(t, make(), 404, `{"error":190}`)
	}
	if answer.Print() != `{"error":190}` {
		t.Errorf("P3: the answer has become %s", answer.Print())
	}
}
