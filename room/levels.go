package room

import (
	"maps"

	"tocsin/api"
	"tocsin/jsonval"
)

// levels are who has which power, and which a notification needs; zero, as long as none have come.
type levels struct {
	come   bool
	users  map[string]int
	others int // of who is none of users
	needs  map[string]int
}

// levelsOf reads what the content of an event of levels says; what is no level is let by.
func levelsOf(content *jsonval.Value) levels {
	users := numbersOf(content.Get("users"))
	maps.DeleteFunc(users, func(name string, _ int) bool { return !IsUser(name) })
	l := levels{come: true, users: users, needs: numbersOf(content.Get("notifications"))}
	if n := content.Get("users_default"); isLevel(n) {
		l.others = int(n.Number())
	}
	return l
}

// numbersOf gives the levels among the members of an object; of another value none.
func numbersOf(v *jsonval.Value) map[string]int {
	numbers := map[string]int{}
	if v.Kind() != jsonval.Object { // a list has items, too
		return numbers
	}
	for i := range v.Len() {
		if n := v.Item(i); isLevel(n) {
			numbers[v.Key(i)] = int(n.Number())
		}
	}
	return numbers
}

func isLevel(v *jsonval.Value) bool { return v.Kind() == jsonval.Int && mayBeLevel(v.Number()) }

func mayBeLevel(n int64) bool { return -api.MaxLevel <= n && n <= api.MaxLevel }

func (l levels) same(m levels) bool {
	return l.come == m.come && l.others == m.others && maps.Equal(l.users, m.users) && maps.Equal(l.needs, m.needs)
}

// of tells a user's level.
func (l levels) of(user string) int {
	if n, ok := l.users[user]; ok {
		return n
	}
	return l.others
}
