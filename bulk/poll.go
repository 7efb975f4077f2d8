package bulk

import (
	"tocsin/api"
	"tocsin/cond"
	"tocsin/jsonval"
	"tocsin/sign"
)

// A poll is one event for which rules are asked.
type poll struct {
	texts  map[string]text // at each path where a rule needs one; no longer changed once goroutines read it
	common *memo           // the answers that are the same for all users
}

// A text is what stands at a path of the event, in small letters.
type text struct {
	small string
	there bool // or is there something else, or nothing?
}

// pollOf reads each text once, whoever needs it.
func pollOf(askers []asker) *poll {
	p := &poll{texts: map[string]text{}, common: newMemo()}
	for _, a := range askers {
		for _, path := range a.sheet.paths {
			if _, known := p.texts[path]; !known {
				p.texts[path] = textAt(a.facts.Event, path)
			}
		}
	}
	return p
}

func textAt(event *jsonval.Value, path string) text {
	parts, err := jsonval.Path(path)
	if err != nil {
		return text{}
	}
	v := event.Look(parts)
	if v.Kind() != jsonval.Text {
		return text{}
	}
	return text{small: sign.Fold(v.Text()), there: true}
}

// A finding is what a user is told, and how many conditions were asked for this user alone.
type finding struct {
	verdict api.Verdict
	asked   int
}

func (p *poll) ask(a asker) finding {
	own := newMemo()
	found := finding{verdict: api.Verdict{User: a.user}}
	for _, at := range a.sheet.fitting(p.texts) {
		r := a.sheet.rules[at]
		if p.allHold(r.conds, a.facts, own) {
			found.verdict.Rule, found.verdict.Actions = r.name, r.actions
			break
		}
	}
	found.asked = own.asked()
	return found
}

func (p *poll) allHold(conds []condition, f cond.Facts, own *memo) bool {
	for _, c := range conds {
		answers := p.common
		if c.Own() {
			answers = own
		}
		if !answers.holds(c, f) {
			return false
		}
	}
	return true
}
