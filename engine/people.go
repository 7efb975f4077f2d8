package engine

import (
	"tocsin/api"
	"tocsin/rules"
)

// mayGive tells whether a user is one of the people, or may become one.
func (e *Engine) mayGive(user string) bool {
	return e.people[user] != nil || len(e.people) < api.MaxPeople
}

// rulesOf are the rules of a local user; of who is none of the people the server's own, which nobody keeps.
func (e *Engine) rulesOf(user string) *rules.Set {
	if s := e.people[user]; s != nil {
		return s
	}
	s, _ := rules.New(user) // it is a user's name, always
	return s
}

// welcome says that a user is one of the people.
func (e *Engine) welcome(user string) { e.people[user] = e.rulesOf(user) }

// seat lays the rules that a user has now into the index, or takes them out: who is in no room is never asked.
func (e *Engine) seat(user string) {
	if len(e.roomsOf(user)) == 0 {
		e.index.Set(user, nil)
		return
	}
	e.index.Set(user, e.rulesOf(user))
}

// change changes a user's rules.
func (e *Engine) change(user string, how func(s *rules.Set) api.Errno) (answer, api.Errno) {
	s := e.rulesOf(user)
	if errno := how(s); errno != api.OK {
		return nil, errno
	}
	e.people[user] = s
	e.seat(user)
	return nil, api.OK
}

func (e *Engine) putRule(c command) (answer, api.Errno) {
	return e.change(c.text("user"), func(s *rules.Set) api.Errno {
		return s.Put(c.text("kind"), c.text("id"), c.Get("rule"), c.text("before"), c.text("after"))
	})
}

func (e *Engine) deleteRule(c command) (answer, api.Errno) {
	return e.change(c.text("user"), func(s *rules.Set) api.Errno {
		return s.Delete(c.text("kind"), c.text("id"))
	})
}

func (e *Engine) enableRule(c command) (answer, api.Errno) {
	return e.change(c.text("user"), func(s *rules.Set) api.Errno {
		return s.Enable(c.text("kind"), c.text("id"), c.Get("enabled").True())
	})
}

func (e *Engine) setActions(c command) (answer, api.Errno) {
	return e.change(c.text("user"), func(s *rules.Set) api.Errno {
		return s.SetActions(c.text("kind"), c.text("id"), c.Get("actions"))
	})
}

func (e *Engine) tellRules(c command) (answer, api.Errno) {
	return answer{"rules": e.rulesOf(c.text("user")).Print()}, api.OK
}
