package house

import (
	"slices"
	"strconv"
	"strings"

	"tocsin/api"
	"tocsin/engine"
	"tocsin/feed"
	"tocsin/route"
	"tocsin/session"
)

// A machine does orders. Those of all houses do the same ones, so nothing but the orders may count here.
type machine struct {
	key    []byte
	engine *engine.Engine
	keeper *session.Keeper
	hub    *feed.Hub
	guests []string // who was ever given a token, by rising names
	now    int
}

// newMachine refuses a key that may not be.
func newMachine(key []byte) (*machine, api.Errno) {
	keeper, errno := session.New(key, api.HouseLife, api.HouseBurst, api.HouseRate)
	if errno != api.OK {
		return nil, errno
	}
	return &machine{key: slices.Clone(key), engine: engine.New(), keeper: keeper, hub: feed.New()}, api.OK
}

// A gate is what is asked of a client ahead of all else; each asks what those ahead of it ask, too.
type gate int

const (
	open    gate = iota
	known        // by a token
	counted      // and not too often
)

// A way is one of the machine's targets.
type way struct {
	target  string
	goesOn  bool // more may stand behind the target
	gate    gate
	method  string // empty: any
	execute func(*machine, string, order) api.Response
}

// ownWays are the targets that are not the engine's.
func ownWays() []way {
	return []way{
		{target: "/v1/login", gate: open, method: "POST", execute: (*machine).login},
		{target: "/v1/logout", gate: known, method: "POST", execute: (*machine).logout},
		{target: "/v1/feed", gate: counted, method: "GET", execute: (*machine).tellFeed},
		{target: "/v1/feed?since=", goesOn: true, gate: counted, method: "GET", execute: (*machine).tellFeed},
	}
}

func (w way) leadsTo(target string) bool {
	return target == w.target || w.goesOn && strings.HasPrefix(target, w.target)
}

// wayTo is the way of a target; all that are not the machine's own are the engine's.
func wayTo(target string) way {
	for _, w := range ownWays() {
		if w.leadsTo(target) {
			return w
		}
	}
	return way{gate: counted, execute: (*machine).command}
}

// do does an order.
func (m *machine) do(o order) api.Response {
	w := wayTo(o.target)
	var who string
	if w.gate >= known {
		user, errno := m.keeper.Check(o.token, m.now)
		if errno != api.OK {
			return route.Refused(errno)
		}
		who = user
	}
	if w.gate >= counted {
		if ok, ticks := m.keeper.Allow(who, m.now); !ok {
			return withHeader(route.Refused(api.ErrRate), "retry-after", ticks)
		}
	}
	if w.method != "" && w.method != o.method {
		return route.Refused(api.ErrMethod)
	}
	return w.execute(m, who, o)
}

// withHeader puts a number behind the headers of a response that nobody else has.
func withHeader(r api.Response, name string, n int) api.Response {
	r.Headers = append(r.Headers, [2]string{name, strconv.Itoa(n)})
	return r
}
