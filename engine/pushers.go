package engine

import (
	"tocsin/api"
	"tocsin/jsonval"
)

func (e *Engine) setPusher(c command) (answer, api.Errno) {
	user := c.text("user")
	if errno := e.post.Set(user, c.text("key"), c.text("format")); errno != api.OK {
		return nil, errno
	}
	e.welcome(user)
	return nil, api.OK
}

func (e *Engine) removePusher(c command) (answer, api.Errno) {
	return nil, e.post.Remove(c.text("user"), c.text("key"))
}

func (e *Engine) tellPushers(c command) (answer, api.Errno) {
	return answer{"pushers": e.post.Print(c.text("user"))}, api.OK
}

// tick moves the time on, and tells what is to be tried then (E5).
func (e *Engine) tick(c command) (answer, api.Errno) {
	now := c.number("now")
	if now < e.time || now > api.MaxTime {
		return nil, api.ErrTime
	}
	e.time = now
	var all []*jsonval.Value
	for _, a := range e.post.Tick(now) {
		all = append(all, jsonval.OfMap(answer{
			"id":      number(a.ID),
			"user":    jsonval.OfText(a.User),
			"key":     jsonval.OfText(a.Key),
			"payload": jsonval.OfText(a.Payload),
		}))
	}
	return answer{"attempts": jsonval.OfList(all...)}, api.OK
}

func (e *Engine) reply(c command) (answer, api.Errno) {
	return nil, e.post.Reply(c.number("attempt"), c.text("result"), e.time)
}
