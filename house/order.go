package house

import (
	"strings"

	"tocsin/api"
	"tocsin/jsonval"
)

// bearer stands ahead of a token.
const bearer = "Bearer "

// An order is what a client asks for, as the houses agree on it.
type order struct{ body, method, target, token string }

func orderOf(r api.Request) order {
	return order{body: string(r.Body), method: r.Method, target: r.Target, token: tokenOf(r.Headers)}
}

// tokenOf looks at the first header that could have a token, and at no other.
func tokenOf(headers [][2]string) string {
	for _, h := range headers {
		if h[0] != "authorization" {
			continue
		}
		if token, ok := strings.CutPrefix(h[1], bearer); ok {
			return token
		}
		return ""
	}
	return ""
}

func (o order) print() string {
	return jsonval.OfMap(map[string]*jsonval.Value{
		"body":   jsonval.OfText(o.body),
		"method": jsonval.OfText(o.method),
		"target": jsonval.OfText(o.target),
		"token":  jsonval.OfText(o.token),
	}).Print()
}

// readOrder reads the data of an entry; false: they are no order.
func readOrder(data []byte) (order, bool) {
	v, err := jsonval.Parse(data)
	if err != nil || !hasTexts(v, "body", "method", "target", "token") {
		return order{}, false
	}
	return order{
		body:   v.Get("body").Text(),
		method: v.Get("method").Text(),
		target: v.Get("target").Text(),
		token:  v.Get("token").Text(),
	}, true
}

// hasTexts tells whether a value is an Object whose members of these keys are Texts.
func hasTexts(v *jsonval.Value, keys ...string) bool {
	for _, key := range keys {
		if v.Get(key).Kind() != jsonval.Text {
			return false
		}
	}
	return true
}
