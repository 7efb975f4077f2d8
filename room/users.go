package room

import "tocsin/jsonval"

// A membership is what a user has to do with a room; who has never had one has left.
type membership int

const (
	leave membership = iota
	join
	invite
	ban
	memberships // how many there are
)

var words = [memberships]string{leave: "leave", join: "join", invite: "invite", ban: "ban"}

// A user is what a room knows of one.
type user struct {
	membership membership
	display    string // empty, unless it has joined
}

// userOf reads what the content of an event of membership says.
func userOf(content *jsonval.Value) user {
	u := user{membership: membershipOf(content.Get("membership").Text())}
	if u.membership == join {
		u.display = content.Get("displayname").Text()
	}
	return u
}

// membershipOf takes any other word as leave.
func membershipOf(word string) membership {
	for m := range memberships {
		if words[m] == word {
			return m
		}
	}
	return leave
}
