package rules

import (
	"tocsin/api"
	"tocsin/cond"
	"tocsin/glob"
	"tocsin/jsonval"
	"tocsin/sign"
	"tocsin/wire"
)

// Save writes it (R7).
func (s *Set) Save(w *wire.Writer) {
	if w == nil { // no call panics (P1)
		return
	}
	for k := range kinds {
		wire.WriteList(w, s.users[k], func(w *wire.Writer, r Rule) { saveRule(w, k, r) })
	}
	for _, list := range s.own {
		for _, r := range list {
			w.Flag(r.Enabled)
			saveActions(w, r.Actions)
		}
	}
}

func saveRule(w *wire.Writer, k kind, r Rule) {
	w.Text(r.ID)
	w.Flag(r.Enabled)
	if k.hasConditions() {
		wire.WriteList(w, r.Conds, func(w *wire.Writer, c *cond.Cond) { w.Text(c.Name()) })
	}
	if k == content {
		w.Text(patternOf(r))
	}
	saveActions(w, r.Actions)
}

func saveActions(w *wire.Writer, a api.Actions) {
	w.Flag(a.Notify)
	w.Flag(a.Highlight)
	w.Text(a.Sound)
}

// Load reads what Save wrote (R7).
func Load(user string, r *wire.Reader) (*Set, api.Errno) {
	s, errno := New(user)
	if errno != api.OK {
		return nil, errno
	}
	if r == nil { // no call panics (P1)
		return nil, api.ErrWire
	}
	l := loader{r: r}
	for k := range kinds {
		s.users[k] = l.rules(k)
	}
	for _, list := range s.own {
		for i := range list {
			list[i].Enabled = r.Flag()
			list[i].Actions = l.actions()
		}
	}
	if l.wrong || r.Err() != nil {
		return nil, api.ErrWire
	}
	return s, api.OK
}

// A loader reads on when it has met what Save never writes, and keeps that in mind.
type loader struct {
	r     *wire.Reader
	wrong bool
}

// want says what must be so.
func (l *loader) want(ok bool) { l.wrong = l.wrong || !ok }

func (l *loader) rules(k kind) []Rule {
	list := wire.ReadList(l.r, api.MaxRules, func(*wire.Reader) Rule { return l.rule(k) })
	for i, r := range list {
		l.want(indexOf(list, r.ID) == i)
	}
	return list
}

func (l *loader) rule(k kind) Rule {
	r := Rule{Kind: k.name(), ID: l.r.Text()}
	l.want(k.mayBe(r.ID))
	r.Enabled = l.r.Flag()
	r.Conds = l.conds(k, r.ID)
	r.Actions = l.actions()
	return r
}

func (l *loader) conds(k kind, id string) []*cond.Cond {
	switch k {
	case room, sender:
		return byID(k, id)
	case content:
		return []*cond.Cond{l.pattern()}
	}
	return wire.ReadList(l.r, api.MaxConds, func(*wire.Reader) *cond.Cond { return l.cond() })
}

func (l *loader) pattern() *cond.Cond {
	text := l.r.Text()
	g, errno := glob.Compile(text)
	l.want(errno == api.OK && g.String() == text)
	return bodyMatch(text)
}

func (l *loader) cond() *cond.Cond {
	text := l.r.Text()
	v, err := jsonval.Parse([]byte(text))
	c, errno := cond.Parse(v) // of no value: ErrCond
	l.want(err == nil && errno == api.OK && c.Name() == text)
	return c
}

func (l *loader) actions() api.Actions {
	var a api.Actions
	a.Notify = l.r.Flag()
	a.Highlight = l.r.Flag()
	a.Sound = l.r.Text()
	l.want(len(a.Sound) <= api.MaxID && sign.Valid(a.Sound))
	return a
}
