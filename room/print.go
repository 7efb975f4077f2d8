package room

import "tocsin/jsonval"

type members = map[string]*jsonval.Value

// Print writes the room, for an answer (O6).
func (r *Room) Print() *jsonval.Value {
	return jsonval.OfMap(members{
		"creator": jsonval.OfText(r.creator),
		"default": jsonval.OfInt(int64(r.levels.others)),
		"id":      jsonval.OfText(r.id),
		"joined":  jsonval.OfInt(int64(r.members())),
		"leveled": jsonval.OfBool(r.levels.come),
		"levels":  printEach(r.levels.users, printNumber),
		"needs":   printEach(r.levels.needs, printNumber),
		"users":   printEach(r.users, printUser),
	})
}

// printEach writes a map as an object, whose members stand in one order, whatever the map's is.
func printEach[V any](m map[string]V, one func(V) *jsonval.Value) *jsonval.Value {
	all := members{}
	for key, v := range m {
		all[key] = one(v)
	}
	return jsonval.OfMap(all)
}

func printNumber(n int) *jsonval.Value { return jsonval.OfInt(int64(n)) }

func printUser(u user) *jsonval.Value {
	return jsonval.OfMap(members{
		"display":    jsonval.OfText(u.display),
		"membership": jsonval.OfText(words[u.membership]),
	})
}
