package engine

import (
	"fmt"
	"strings"
	"testing"

	"tocsin/api"
)

// peopleAre wants that these are the people, and no others.
func (a asker) peopleAre(promise string, names ...string) {
	a.Helper()
	var got []string
	for _, name := range rising(a.engine.people) {
		got = append(got, name)
	}
	if strings.Join(got, " ") != strings.Join(names, " ") {
		a.Errorf("%s: the people are %v, want %v", promise, got, names)
	}
}

func TestWhoBecomesOneOfThePeople(t *testing.T) { // E2
	for _, command := range []string{
		putRule("@a:home", "override", "x", `{"actions":[]}`),
		`{"do":"enable_rule","user":"@a:home","kind":"override","id":".master","enabled":true}`,
		`{"do":"enable_rule","user":"@a:home","kind":"override","id":".notice","enabled":true}`, // as it was
		`{"do":"set_actions","user":"@a:home","kind":"underride","id":".call","actions":[]}`,
		receipt("@a:home", "!r", "$1"),
		setPusher("@a:home", "k"),
	} {
		a := newAsker(t)
		a.does(joins("$1", "!r", "@b:home"))
		a.does(command)
		a.peopleAre("E2: "+command, "@a:home")
		a.does(command)
		a.peopleAre("E2: "+command+" again", "@a:home")
	}
}

func TestWhoDoesNot(t *testing.T) { // E2, E7
	a := newAsker(t)
	a.does(joins("$1", "!r", "@a:home"), message("$2", "!r", "@b:home", "hello a"))
	for _, command := range []string{
		joins("$3", "!r", "@c:home"), member("$4", "!r", "@c:home", "leave"),
		receipt("@a:home", "!r", "$x"), receipt("@a:home", "!s", "$1"),
		rulesOf("@a:home"), countsOf("@a:home"), countsIn("@a:home", "!r"), pushersOf("@a:home"), `{"do":"room","room":"!r"}`, tick(1), `{"do":"rotate"}`,
	} {
		a.does(command)
		a.peopleAre("E2: " + command)
	}
	a.refuses("E2", `{"do":"delete_rule","user":"@a:home","kind":"override","id":"x"}`, api.ErrNoRule)
	a.refuses("E2", `{"do":"remove_pusher","user":"@a:home","key":"k"}`, api.ErrNoPusher)
	a.refuses("E2", putRule("@a:home", "override", "x", `{}`), api.ErrRule)
	a.refuses("E2", `{"do":"enable_rule","user":"@a:home","kind":"override","id":"x","enabled":true}`, api.ErrNoRule)
	a.refuses("E2", `{"do":"set_actions","user":"@a:home","kind":"override","id":".master","actions":[1]}`, api.ErrRule)
	a.refuses("E2", `{"do":"set_pusher","user":"@a:home","key":"","format":"full"}`, api.ErrPusher)
	a.peopleAre("E2")
}

func TestWhoIsOneStaysOne(t *testing.T) { // E2
	a := newAsker(t)
	a.does(setPusher("@a:home", "k"), `{"do":"remove_pusher","user":"@a:home","key":"k"}`)
	a.peopleAre("E2", "@a:home")
	a.does(putRule("@b:home", "override", "x", `{"actions":[]}`), `{"do":"delete_rule","user":"@b:home","kind":"override","id":"x"}`)
	a.peopleAre("E2", "@a:home", "@b:home")
}

// giftsTo is each command that gives a user something.
func giftsTo(user string) []string {
	return []string{
		putRule(user, "override", "x", `{"actions":[]}`),
		`{"do":"enable_rule","user":"` + user + `","kind":"override","id":".master","enabled":true}`,
		`{"do":"set_actions","user":"` + user + `","kind":"override","id":".master","actions":[]}`,
		receipt(user, "!r", "$1"),
		setPusher(user, "k"),
		`{"do":"delete_rule","user":"` + user + `","kind":"override","id":"x"}`,
	}
}

// crowd fills an engine with so many people.
func crowd(a asker, many int) {
	a.Helper()
	a.does(joins("$1", "!r", "@p0:home"), joins("$2", "!r", "@new:home"))
	for n := range many {
		a.does(giftsTo(fmt.Sprintf("@p%d:home", n))[n%5])
	}
}

func TestNoMoreThan200People(t *testing.T) { // E2
	a := newAsker(t)
	crowd(a, 199)
	a.does(setPusher("@p199:home", "k")) // the 200th
	if n := len(a.engine.people); n != 200 {
		t.Fatalf("E2: %d people", n)
	}
	for _, command := range giftsTo("@new:home") {
		a.refuses("E2", command, api.ErrPeople)
	}
	a.refuses("E2", receipt("@new:home", "!r", "$x"), api.ErrPeople) // ahead of whether it would change something
	for _, command := range giftsTo("@p3:home") {
		a.does(command)
	}
	if n := len(a.engine.people); n != 200 {
		t.Errorf("E2: %d people", n)
	}
	a.does(rulesOf("@new:home"), countsOf("@new:home"), pushersOf("@new:home"), message("$3", "!r", "@p0:home", "hello"))
	a.wants("E2", countsIn("@new:home", "!r"), counters(1, 0)) // who is none of the people has counts, too
	a.refuses("E2", `{"do":"remove_pusher","user":"@new:home","key":"k"}`, api.ErrNoPusher)
}

func TestOrderOfErrPeople(t *testing.T) { // E2, P2
	a := newAsker(t)
	crowd(a, 200)
	for _, c := range []struct {
		command string
		errno   api.Errno
	}{
		{`{"do":"set_pusher","user":"@new:home","key":"k"}`, api.ErrCommand},
		{setPusher("@new:away", "k"), api.ErrForeign},
		{setPusher("@new", "k"), api.ErrID},
		{receipt("@new:home", "r", "$1"), api.ErrID},
		{receipt("@new:home", "!r", "1"), api.ErrID},
		{receipt("@new:home", "!x", "$x"), api.ErrPeople},
		{putRule("@new:home", "x", ".x", `{}`), api.ErrPeople},
		{`{"do":"delete_rule","user":"@new:home","kind":"override","id":".master"}`, api.ErrPeople},
		{`{"do":"delete_rule","user":"@new:home","kind":"x","id":"x"}`, api.ErrPeople},
		{`{"do":"enable_rule","user":"@new:home","kind":"x","id":"x","enabled":true}`, api.ErrPeople},
		{`{"do":"set_actions","user":"@new:home","kind":"x","id":"x","actions":[]}`, api.ErrPeople},
		{`{"do":"set_pusher","user":"@new:home","key":"","format":"x"}`, api.ErrPeople},
		{putRule("@p7:home", "x", ".x", `{}`), api.ErrKind},
	} {
		a.refuses("E2", c.command, c.errno)
	}
}
