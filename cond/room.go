package cond

import (
	"strconv"
	"strings"

	"tocsin/jsonval"
	"tocsin/sign"
)

func containsName(c *Cond, f Facts) bool {
	body := f.Event.Look(bodyPath())
	// Has tells of the empty name, which is none, that it stands nowhere.
	return body.Kind() == jsonval.Text && sign.Has(body.Text(), f.Display)
}

// commonNeed is the level that a notification needs of which nothing is said.
const commonNeed = 50

func readPermission(c *Cond, v *jsonval.Value) bool {
	key, ok := nameIn(v, "key")
	c.key = key
	return ok
}

func permitted(c *Cond, f Facts) bool {
	need, ok := f.Needs[c.key]
	if !ok {
		need = commonNeed
	}
	return f.Level >= need
}

// A count says how many members there are to be.
type count struct {
	size   string // how they are held against the number: "" (as many), "<", ">", "<=", ">="
	number int
}

// maxDigits is how many digits a count may have, noughts ahead too.
const maxDigits = 9

func readCount(c *Cond, v *jsonval.Value) bool {
	is, ok := textIn(v, "is")
	if !ok {
		return false
	}
	digits := strings.TrimLeft(is, "<=>")
	size, ok := sizeOf(is[:len(is)-len(digits)])
	if !ok || len(digits) > maxDigits || strings.Trim(digits, "0123456789") != "" {
		return false
	}
	number, err := strconv.Atoi(digits) // of no digits an error
	c.count = count{size: size, number: number}
	return err == nil
}

// sizeOf gives the one way of a size; false: it is none.
func sizeOf(text string) (string, bool) {
	switch text {
	case "==":
		return "", true
	case "", "<", ">", "<=", ">=":
		return text, true
	}
	return "", false
}

func writeCount(c *Cond, members map[string]*jsonval.Value) {
	members["is"] = jsonval.OfText(c.count.size + strconv.Itoa(c.count.number))
}

func countIs(c *Cond, f Facts) bool { return c.count.holds(f.Joined) }

// holds tells whether so many are as the count says: a size with = is the one without it, but for as many.
func (n count) holds(joined int) bool {
	switch n.size {
	case "<=":
		if joined == n.number {
			return true
		}
		fallthrough
	case "<":
		return joined < n.number
	case ">=":
		if joined == n.number {
			return true
		}
		fallthrough
	case ">":
		return joined > n.number
	}
	return joined == n.number
}
