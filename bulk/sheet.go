package bulk

import (
	"slices"

	"tocsin/api"
	"tocsin/cond"
	"tocsin/rules"
)

// A sheet is a user's rules, laid so that those that cannot apply are not looked at.
type sheet struct {
	rules []rule         // those that are enabled, in the order in which they are asked
	free  []int          // the places of those that need no text
	bound map[need][]int // the places of all others, by the first text that each needs
	paths []string       // where texts are needed, each once
}

// A rule is what is asked and told of one.
type rule struct {
	name    string
	actions api.Actions
	conds   []condition
	needs   []need
}

// A condition is kept with its name, which takes a while to write.
type condition struct {
	*cond.Cond
	name string
}

// A need is a text, in small letters, that must stand at a path of the event.
type need struct{ path, text string }

// sheetOf lays out the rules that a set has now.
func sheetOf(s *rules.Set) *sheet {
	laid := &sheet{bound: map[need][]int{}}
	for r := range s.All() {
		if r.Enabled {
			laid.add(ruleOf(r))
		}
	}
	slices.Sort(laid.paths)
	laid.paths = slices.Compact(laid.paths)
	return laid
}

func ruleOf(r rules.Rule) rule {
	made := rule{name: r.Kind + "/" + r.ID, actions: r.Actions}
	for _, c := range r.Conds {
		made.conds = append(made.conds, condition{Cond: c, name: c.Name()})
		if path, text, ok := c.Fixed(); ok {
			made.needs = append(made.needs, need{path: path, text: text})
		}
	}
	return made
}

// add lays a rule behind the others.
func (s *sheet) add(r rule) {
	at := len(s.rules)
	s.rules = append(s.rules, r)
	if len(r.needs) == 0 {
		s.free = append(s.free, at)
		return
	}
	first := r.needs[0]
	s.bound[first] = append(s.bound[first], at)
	for _, n := range r.needs {
		s.paths = append(s.paths, n.path)
	}
}

// fitting gives the places of the rules that fit an event with these texts, in the order in which they are asked.
func (s *sheet) fitting(texts map[string]text) []int {
	places := slices.Clone(s.free)
	for _, path := range s.paths {
		if t := texts[path]; t.there {
			places = append(places, s.bound[need{path: path, text: t.small}]...)
		}
	}
	places = slices.DeleteFunc(places, func(at int) bool { return !s.rules[at].fits(texts) })
	slices.Sort(places)
	return places
}

func (r rule) fits(texts map[string]text) bool {
	for _, n := range r.needs {
		if texts[n.path] != (text{small: n.text, there: true}) {
			return false
		}
	}
	return true
}
