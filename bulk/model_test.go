package bulk

import (
	"slices"
	"testing"

	"tocsin/api"
	"tocsin/cond"
	"tocsin/jsonval"
	"tocsin/room"
	"tocsin/rules"
	"tocsin/sign"
	"tocsin/wire"
)

// The model that an index is held against: it keeps whole sets, asks each user's set by itself, and reckons the work in the chapter's words.
type model struct {
	sets map[string]*rules.Set
	work int
}

func newModel() *model { return &model{sets: map[string]*rules.Set{}} }

// set keeps a copy of the rules, which are those of the owner.
func (m *model) set(t testing.TB, user, owner string, s *rules.Set) {
	t.Helper()
	if s == nil {
		delete(m.sets, user)
		return
	}
	m.sets[user] = copied(t, owner, s)
}

// copied is a set that has nothing in common with s.
func copied(t testing.TB, owner string, s *rules.Set) *rules.Set {
	t.Helper()
	c, errno := rules.Load(owner, wire.NewReader([]byte(savedSet(s))))
	if errno != api.OK {
		t.Fatalf("R7: Load of what Save wrote: %d", errno)
	}
	return c
}

func (m *model) evaluate(r *room.Room, e *room.Event, users []string) []api.Verdict {
	m.work = m.reckon(r, e, users)
	var verdicts []api.Verdict
	for _, user := range users {
		v := api.Verdict{User: user}
		if s := m.sets[user]; s != nil {
			v.Actions, v.Rule = s.Evaluate(r.Facts(e, user))
		}
		verdicts = append(verdicts, v)
	}
	return verdicts
}

// A question is a condition that was asked, for a user if it is Own.
type question struct {
	name string
	own  bool
	user string
}

func (m *model) reckon(r *room.Room, e *room.Event, users []string) int {
	asked := map[question]bool{}
	for _, user := range users {
		s := m.sets[user]
		if s == nil {
			continue
		}
		for rule := range s.All() {
			if !rule.Enabled || !modelFits(rule, e) {
				continue
			}
			if modelAsk(rule, r.Facts(e, user), user, asked) {
				break
			}
		}
	}
	return len(asked)
}

// modelAsk asks a rule's conditions up to the first that does not hold; whether all do.
func modelAsk(rule rules.Rule, f cond.Facts, user string, asked map[question]bool) bool {
	for _, c := range rule.Conds {
		q := question{name: c.Name(), own: c.Own()}
		if q.own {
			q.user = user
		}
		asked[q] = true
		if !c.Holds(f) {
			return false
		}
	}
	return true
}

func modelFits(rule rules.Rule, e *room.Event) bool {
	return !slices.ContainsFunc(rule.Conds, func(c *cond.Cond) bool {
		key, text, ok := c.Fixed()
		path, err := jsonval.Path(key)
		v := e.Body.Look(path)
		return ok && (err != nil || v.Kind() != jsonval.Text || sign.Fold(v.Text()) != text)
	})
}

// A pair is an index, and the model of it: the same calls are made on both.
type pair struct {
	t testing.TB
	x *Index
	m *model
}

func newPair(t testing.TB) *pair { return &pair{t: t, x: New(), m: newModel()} }

func (p *pair) set(user, owner string, s *rules.Set) {
	p.t.Helper()
	p.m.set(p.t, user, owner, s)
	p.x.Set(user, s)
}

// held wants that both tell the same.
func (p *pair) held(r *room.Room, e *room.Event, users []string) bool {
	p.t.Helper()
	want := p.m.evaluate(r, e, users)
	got := p.x.Evaluate(r, e, users)
	if !slices.Equal(got, want) {
		p.t.Errorf("B2: Evaluate(%s, %q):\n%+v, want\n%+v", e.Body.Print(), users, got, want)
		return false
	}
	if p.x.Work() != p.m.work {
		p.t.Errorf("B3: Work behind Evaluate(%s, %q): %d, want %d", e.Body.Print(), users, p.x.Work(), p.m.work)
		return false
	}
	return true
}
