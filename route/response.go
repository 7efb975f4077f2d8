package route

import (
	"tocsin/api"
	"tocsin/jsonval"
)

// Response writes an answer (Y5).
func Response(answer *jsonval.Value) api.Response {
	return api.Response{
		Status:  statusOf(answer),
		Headers: [][2]string{{"content-type", "application/json"}},
		Body:    []byte(answer.Print()),
	}
}

// Refused writes an error (Y5).
func Refused(e api.Errno) api.Response {
	return Response(jsonval.OfMap(map[string]*jsonval.Value{"error": jsonval.OfInt(int64(e))}))
}

func statusOf(answer *jsonval.Value) int {
	e := answer.Get("error")
	if e.Kind() != jsonval.Int {
		return 200
	}
	switch e.Number() {
	case 170, 171, 172:
		return 401
	case 84, 91:
		return 403
	case 2, 82, 112, 131, 132, 190, 220:
		return 404
	case 191:
		return 405
	case 110, 141:
		return 409
	case 200:
		return 410
	case 22, 182:
		return 413
	case 83, 93, 111, 142, 143, 173:
		return 429
	case 181:
		return 431
	case 183:
		return 501
	case 41, 150, 151, 210, 211:
		return 503
	case 184:
		return 505
	case 51:
		return 507
	}
	return 400
}
