package rules

import (
	"tocsin/api"
	"tocsin/jsonval"
)

// readActions reads actions as a value; false: they are none.
func readActions(v *jsonval.Value) (api.Actions, bool) {
	if v.Kind() != jsonval.List || v.Len() > api.MaxConds {
		return api.Actions{}, false
	}
	var a api.Actions
	for i := range v.Len() {
		if !readAction(&a, v.Item(i)) {
			return api.Actions{}, false
		}
	}
	return a, true
}

// readAction adds what one item says.
func readAction(a *api.Actions, v *jsonval.Value) bool {
	if v.Kind() == jsonval.Object {
		return readTweak(a, v)
	}
	switch v.Text() { // of what is no Text it is empty
	case "notify":
		a.Notify = true
		return true
	case "dont_notify", "coalesce":
		return true
	}
	return false
}

func readTweak(a *api.Actions, v *jsonval.Value) bool {
	tweak, value := v.Get("set_tweak"), v.Get("value")
	switch tweak.Text() {
	case "sound":
		a.Sound = value.Text()
		return a.Sound != "" && len(a.Sound) <= api.MaxID
	case "highlight":
		a.Highlight = value == nil || value.True()
		return value == nil || value.Kind() == jsonval.Bool
	}
	return tweak.Kind() == jsonval.Text
}

// printActions writes actions in their one way.
func printActions(a api.Actions) *jsonval.Value {
	var items []*jsonval.Value
	if a.Notify {
		items = append(items, jsonval.OfText("notify"))
	}
	if a.Sound != "" {
		items = append(items, printTweak("sound", jsonval.OfText(a.Sound)))
	}
	if a.Highlight {
		items = append(items, printTweak("highlight", jsonval.OfBool(true)))
	}
	return jsonval.OfList(items...)
}

func printTweak(name string, v *jsonval.Value) *jsonval.Value {
	return jsonval.OfMap(members{"set_tweak": jsonval.OfText(name), "value": v})
}
