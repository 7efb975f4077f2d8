package session

// A purse holds the live tokens, by their times and by their users.
type purse struct {
	shelf *shelf[token]
	users map[string]map[token]struct{} // of who has any
}

func newPurse() *purse {
	return &purse{shelf: newShelf[token](), users: map[string]map[token]struct{}{}}
}

func (p *purse) has(t token) bool { return p.shelf.until(t) > 0 }

func (p *purse) add(t token) {
	p.shelf.put(t, t.until)
	if p.users[t.user] == nil {
		p.users[t.user] = map[token]struct{}{}
	}
	p.users[t.user][t] = struct{}{}
}

func (p *purse) remove(t token) {
	p.shelf.remove(t)
	p.disown(t)
}

// removeAll takes out all of a user's, and tells how many.
func (p *purse) removeAll(user string) int {
	own := p.users[user]
	many := len(own)
	for t := range own {
		p.remove(t)
	}
	return many
}

// drop takes out all whose time is not above now.
func (p *purse) drop(now int64) {
	for _, t := range p.shelf.drop(now) {
		p.disown(t)
	}
}

// disown takes a token from its user.
func (p *purse) disown(t token) {
	delete(p.users[t.user], t)
	if len(p.users[t.user]) == 0 {
		delete(p.users, t.user)
	}
}
