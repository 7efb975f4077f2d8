package cond

import (
	"slices"

	"tocsin/api"
	"tocsin/glob"
	"tocsin/jsonval"
	"tocsin/sign"
)

// readPath takes the key of a condition that asks for a value of the event.
func readPath(c *Cond, v *jsonval.Value) bool {
	key, ok := textIn(v, "key")
	if !ok {
		return false
	}
	parts, err := jsonval.Path(key)
	c.key, c.parts = key, parts
	return err == nil
}

func readMatch(c *Cond, v *jsonval.Value) bool {
	pattern, ok := textIn(v, "pattern")
	if !ok || !readPath(c, v) {
		return false
	}
	g, errno := glob.Compile(pattern)
	c.pattern = g
	return errno == api.OK
}

func writeMatch(c *Cond, members map[string]*jsonval.Value) {
	writeKey(c, members)
	members["pattern"] = jsonval.OfText(c.pattern.String())
}

func matches(c *Cond, f Facts) bool {
	v := f.Event.Look(c.parts)
	if v.Kind() != jsonval.Text {
		return false
	}
	if c.asksBody() {
		return c.pattern.Within(v.Text())
	}
	return c.pattern.Whole(v.Text())
}

// fixedByPattern gives the pattern's one text; within a body it may stand among others.
func fixedByPattern(c *Cond) (string, bool) {
	if c.asksBody() {
		return "", false
	}
	return c.pattern.Literal()
}

func (c *Cond) asksBody() bool { return slices.Equal(c.parts, bodyPath()) }

// bodyPath leads to what a message says.
func bodyPath() []string { return []string{"content", "body"} }

func readProperty(c *Cond, v *jsonval.Value) bool {
	c.value = v.Get("value")
	return plain(c.value) && readPath(c, v)
}

// plain tells whether a value is there (null may be), and has no others in it.
func plain(v *jsonval.Value) bool {
	return v != nil && v.Kind() != jsonval.List && v.Kind() != jsonval.Object
}

func writeProperty(c *Cond, members map[string]*jsonval.Value) {
	writeKey(c, members)
	members["value"] = c.value
}

func isValue(c *Cond, f Facts) bool {
	v := f.Event.Look(c.parts)
	return v != nil && jsonval.Same(v, c.value)
}

func containsValue(c *Cond, f Facts) bool {
	v := f.Event.Look(c.parts)
	if v.Kind() != jsonval.List {
		return false
	}
	for i := range v.Len() {
		if jsonval.Same(v.Item(i), c.value) {
			return true
		}
	}
	return false
}

func fixedByValue(c *Cond) (string, bool) {
	return sign.Fold(c.value.Text()), c.value.Kind() == jsonval.Text
}
