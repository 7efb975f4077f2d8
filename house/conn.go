package house

import (
	"tocsin/api"
	"tocsin/web"
)

// A conn is a connection that is open. Its requests are numbered from 1 on; a fault counts as the last one.
type conn struct {
	parser *web.Parser
	asked  int                  // how many requests have come
	sent   int                  // the answers of how many went out
	ended  bool                 // the last one has come
	slots  map[int]api.Response // the answers that are ready, by the numbers of their requests
}

func newConn() *conn { return &conn{parser: web.NewParser(), slots: map[int]api.Response{}} }

// next is the number of a request that has come.
func (c *conn) next(last bool) int {
	c.asked++
	c.ended = last
	return c.asked
}

// over tells whether the last answer went out.
func (c *conn) over() bool { return c.ended && c.sent == c.asked }

// out takes the answers out that are ready, up to the first that is not.
func (c *conn) out() []byte {
	var b []byte
	for {
		r, ok := c.slots[c.sent+1]
		if !ok {
			return b
		}
		c.sent++
		delete(c.slots, c.sent)
		r.Last = c.over()
		printed, _ := web.PrintResponse(r) // what a house answers may always be printed
		b = append(b, printed...)
	}
}
