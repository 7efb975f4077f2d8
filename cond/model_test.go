package cond

import (
	"encoding/json"
	"regexp"
	"slices"
	"strconv"
	"strings"

	"tocsin/jsonval"
	"tocsin/sign"
)

// The model that the calls are held against: it does what the chapter's words say, with the values of encoding/json and with regular expressions.

// A told is what the document says of a condition.
type told struct {
	print      string // what Print prints
	own        bool
	path, text string
	fixed      bool
	holds      func(f Facts) bool
}

// decoded is a value, as encoding/json reads it; numbers are json.Number.
func decoded(text string) any {
	d := json.NewDecoder(strings.NewReader(text))
	d.UseNumber()
	var v any
	if err := d.Decode(&v); err != nil {
		panic(err)
	}
	return v
}

// encoded writes one that has no others in it.
func encoded(v any) string {
	if text, ok := v.(string); ok {
		return jsonval.OfText(text).Print()
	}
	b, err := json.Marshal(v)
	if err != nil {
		panic(err)
	}
	return string(b)
}

// modelParse is what the document says of Parse; false: ErrCond.
func modelParse(text string) (told, bool) {
	m, isObject := decoded(text).(map[string]any)
	kind, isText := m["kind"].(string)
	if !isObject || !isText || len(kind) == 0 || len(kind) > 60 {
		return told{}, false
	}
	switch kind {
	case "event_match":
		return modelMatch(m)
	case "event_property_is", "event_property_contains":
		return modelProperty(m, kind)
	case "contains_display_name":
		return told{print: `{"kind":"contains_display_name"}`, own: true, holds: func(f Facts) bool {
			body, there := modelAt(f, []string{"content", "body"})
			text, isText := body.(string)
			return f.Display != "" && there && isText && sign.Has(text, f.Display)
		}}, true
	case "room_member_count":
		return modelCount(m)
	case "sender_notification_permission":
		key, isText := m["key"].(string)
		print := `{"key":` + encoded(key) + `,"kind":"sender_notification_permission"}`
		return told{print: print, holds: func(f Facts) bool {
			for name, need := range f.Needs {
				if name == key {
					return f.Level >= need
				}
			}
			return f.Level >= 50
		}}, isText && len(key) >= 1 && len(key) <= 60
	}
	return told{print: `{"kind":` + encoded(kind) + `}`, holds: func(f Facts) bool { return false }}, true
}

// modelParts takes a key apart; false: it is no path.
func modelParts(m map[string]any) ([]string, bool) {
	key, isText := m["key"].(string)
	if !isText || len(key) > 200 || !regexp.MustCompile(`(?s)^([^\\]|\\\\|\\\.)*$`).MatchString(key) {
		return nil, false
	}
	parts := []string{""}
	for _, piece := range regexp.MustCompile(`(?s)\\.|.`).FindAllString(key, -1) {
		if piece == "." {
			parts = append(parts, "")
			continue
		}
		parts[len(parts)-1] += strings.TrimPrefix(piece, `\`)
	}
	return parts, true
}

// events has those that were decoded already; they never change.
var events = map[*jsonval.Value]any{}

func decodedEvent(event *jsonval.Value) any {
	if _, had := events[event]; !had {
		events[event] = decoded(event.Print())
	}
	return events[event]
}

// modelAt is the value at a key; false: there is none.
func modelAt(f Facts, parts []string) (any, bool) {
	at := decodedEvent(f.Event)
	for _, part := range parts {
		m, isObject := at.(map[string]any)
		next, there := m[part]
		if !isObject || !there {
			return nil, false
		}
		at = next
	}
	return at, true
}

// A modelPattern is a pattern, as a regular expression for texts in small letters.
type modelPattern struct {
	means     *regexp.Regexp
	written   string // in its one way
	literal   string
	one       bool            // has it a literal?
	ones, any int             // of the row of ? and * that is being read
	found     map[string]bool // what within has told
}

func (p *modelPattern) endRow() {
	p.written += strings.Repeat("?", p.ones) + strings.Repeat("*", min(p.any, 1))
	p.ones, p.any = 0, 0
}

// modelGlob reads a pattern; false: it may not be.
func modelGlob(pattern any) (*modelPattern, bool) {
	text, isText := pattern.(string)
	if !isText || len(text) > 100 || !regexp.MustCompile(`(?s)^([^\\]|\\[*?\\])*$`).MatchString(text) {
		return nil, false
	}
	p := &modelPattern{one: true, found: map[string]bool{}}
	expr := "(?s)^"
	for _, part := range regexp.MustCompile(`(?s)\\.|.`).FindAllString(text, -1) {
		switch part {
		case "*":
			p.any, p.one, expr = p.any+1, false, expr+".*"
			continue
		case "?":
			p.ones, p.one, expr = p.ones+1, false, expr+"."
			continue
		}
		p.endRow()
		small := sign.Fold(part)
		itself := strings.TrimPrefix(small, `\`)
		p.written += small
		p.literal += itself
		expr += regexp.QuoteMeta(itself)
	}
	p.endRow()
	p.means = regexp.MustCompile(expr + "$")
	return p, true
}

func (p *modelPattern) within(text string) bool {
	if _, had := p.found[text]; !had {
		p.found[text] = p.somewhere(text)
	}
	return p.found[text]
}

func (p *modelPattern) somewhere(text string) bool {
	for a := range len(text) + 1 {
		for b := a; b <= len(text); b++ {
			if sign.Edge(text, a) && sign.Edge(text, b) && p.means.MatchString(sign.Fold(text)[a:b]) {
				return true
			}
		}
	}
	return false
}

func modelMatch(m map[string]any) (told, bool) {
	parts, isPath := modelParts(m)
	p, isPattern := modelGlob(m["pattern"])
	if !isPath || !isPattern {
		return told{}, false
	}
	body := slices.Equal(parts, []string{"content", "body"})
	c := told{
		print: `{"key":` + encoded(m["key"]) + `,"kind":"event_match","pattern":` + encoded(p.written) + `}`,
		holds: func(f Facts) bool {
			v, there := modelAt(f, parts)
			text, isText := v.(string)
			if !there || !isText {
				return false
			}
			if body {
				return p.within(text)
			}
			return p.means.MatchString(sign.Fold(text))
		},
	}
	if p.one && !body {
		c.path, c.text, c.fixed = m["key"].(string), p.literal, true
	}
	return c, true
}

func modelProperty(m map[string]any, kind string) (told, bool) {
	parts, isPath := modelParts(m)
	value, there := m["value"]
	_, isList := value.([]any)
	_, isObject := value.(map[string]any)
	if !isPath || !there || isList || isObject {
		return told{}, false
	}
	c := told{
		print: `{"key":` + encoded(m["key"]) + `,"kind":"` + kind + `","value":` + encoded(value) + `}`,
		holds: func(f Facts) bool {
			v, there := modelAt(f, parts)
			_, isList := v.([]any)
			_, isObject := v.(map[string]any)
			return there && !isList && !isObject && v == value
		},
	}
	if kind == "event_property_contains" {
		c.holds = func(f Facts) bool {
			v, _ := modelAt(f, parts)
			list, _ := v.([]any)
			return slices.ContainsFunc(list, func(item any) bool {
				_, isList := item.([]any)
				_, isObject := item.(map[string]any)
				return !isList && !isObject && item == value
			})
		}
	} else if text, isText := value.(string); isText {
		c.path, c.text, c.fixed = m["key"].(string), sign.Fold(text), true
	}
	return c, true
}

func modelCount(m map[string]any) (told, bool) {
	is, isText := m["is"].(string)
	found := regexp.MustCompile(`^(==|<|>|<=|>=|)([0-9]{1,9})$`).FindStringSubmatch(is)
	if !isText || found == nil {
		return told{}, false
	}
	n, _ := strconv.Atoi(found[2])
	written := strings.TrimPrefix(found[1], "==") + strconv.Itoa(n)
	return told{print: `{"is":"` + written + `","kind":"room_member_count"}`, holds: func(f Facts) bool {
		return map[string]bool{
			"": f.Joined == n, "==": f.Joined == n,
			"<": f.Joined < n, ">": f.Joined > n, "<=": f.Joined <= n, ">=": f.Joined >= n,
		}[found[1]]
	}}, true
}
