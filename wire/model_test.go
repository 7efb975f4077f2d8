package wire

import (
	"fmt"
	"math/big"
	"strings"
)

// What is written, in the words of the document: with whole numbers of any size, and bytes put together as texts.

func countBytes(n *big.Int) string {
	rest, digit := new(big.Int).Set(n), new(big.Int)
	row := ""
	for {
		rest.DivMod(rest, big.NewInt(128), digit)
		if rest.Sign() == 0 {
			return row + string([]byte{byte(digit.Int64())})
		}
		row += string([]byte{byte(digit.Int64() + 128)})
	}
}

func numberBytes(n int64) string {
	count := big.NewInt(n)
	if n >= 0 {
		return countBytes(count.Mul(count, big.NewInt(2)))
	}
	count.Mul(count, big.NewInt(-2))
	return countBytes(count.Sub(count, big.NewInt(1)))
}

func truthBytes(b bool) string {
	return map[bool]string{true: "\x01", false: "\x00"}[b]
}

func textBytes(s string) string {
	return countBytes(big.NewInt(int64(len(s)))) + s
}

func listBytes(things ...string) string {
	return countBytes(big.NewInt(int64(len(things)))) + strings.Join(things, "")
}

// model is a Reader in the words of the document.
type model struct {
	text  string
	at    int
	fault int // its place; below 0: there is none
}

func newModel(text string) *model { return &model{text: text, fault: -1} }

func (m *model) wrong(at int) {
	if m.fault < 0 {
		m.fault = at
	}
}

// count looks for all that is wrong with a count, and tells the first of it; nil: there is a fault.
func (m *model) count() *big.Int {
	if m.fault >= 0 {
		return nil
	}
	rest := m.text[m.at:]
	length := 1 // more than there are bytes, if they end within it
	for length <= len(rest) && rest[length-1] >= 128 {
		length++
	}
	var wrongs []int
	if length > len(rest) {
		wrongs = append(wrongs, len(m.text))
	}
	if length >= 10 && len(rest) >= 10 && rest[9] > 1 {
		wrongs = append(wrongs, m.at+9)
	}
	if length > 1 && length <= len(rest) && rest[length-1] == 0 {
		wrongs = append(wrongs, m.at+length-1)
	}
	if len(wrongs) > 0 {
		least := wrongs[0]
		for _, w := range wrongs {
			least = min(least, w)
		}
		m.wrong(least)
		return nil
	}
	n := new(big.Int)
	for i := length - 1; i >= 0; i-- {
		n.Mul(n, big.NewInt(128)).Add(n, big.NewInt(int64(rest[i]%128)))
	}
	m.at += length
	return n
}

func (m *model) number() int64 {
	n := m.count()
	if n == nil {
		return 0
	}
	odd := n.Bit(0) == 1
	if odd {
		n.Add(n, big.NewInt(1)).Neg(n)
	}
	return n.Div(n, big.NewInt(2)).Int64()
}

func (m *model) truth() bool {
	switch {
	case m.fault >= 0:
	case m.at == len(m.text):
		m.wrong(len(m.text))
	case strings.HasPrefix(m.text[m.at:], "\x00"):
		m.at++
	case strings.HasPrefix(m.text[m.at:], "\x01"):
		m.at++
		return true
	default:
		m.wrong(m.at)
	}
	return false
}

func (m *model) words() string {
	n := m.count()
	if n == nil {
		return ""
	}
	if n.Cmp(big.NewInt(int64(len(m.text)-m.at))) > 0 {
		m.wrong(m.at)
		return ""
	}
	from := m.at
	m.at += int(n.Int64())
	return m.text[from:m.at]
}

func (m *model) list(most int, one func(m *model) string) []string {
	from := m.at
	n := m.count()
	if n == nil {
		return nil
	}
	if n.Cmp(big.NewInt(int64(most))) > 0 {
		m.wrong(from)
		return nil
	}
	var l []string
	for k := n.Int64(); k > 0; k-- {
		l = append(l, one(m))
		if m.fault >= 0 {
			return nil
		}
	}
	return l
}

func (m *model) end() bool { return m.fault < 0 && m.at == len(m.text) }

// shape says what is read, one thing behind the other: n a number, t a truth, s a text, l a list of rows of parts.
type shape struct {
	kind  byte
	most  int
	parts []shape
}

// told is what is read of the shapes, for people to see: the model's answers.
func (m *model) told(shapes []shape) string {
	var all []string
	for _, s := range shapes {
		switch s.kind {
		case 'n':
			all = append(all, fmt.Sprint(m.number()))
		case 't':
			all = append(all, fmt.Sprint(m.truth()))
		case 's':
			all = append(all, fmt.Sprintf("%q", m.words()))
		case 'l':
			all = append(all, fmt.Sprint(m.list(s.most, func(m *model) string { return m.told(s.parts) })))
		}
	}
	return "(" + strings.Join(all, " ") + ")"
}

// sumOfBits is the sum, in the words of the document.
func sumOfBits(b []byte) uint32 {
	what := uint32(0xffffffff)
	for _, x := range b {
		for bit := 0; bit < 8; bit++ {
			of := uint32(x/(1<<bit)) % 2
			if of != what%2 {
				what = what / 2
				what ^= 0x82f63b78
			} else {
				what = what / 2
			}
		}
	}
	return 0xffffffff - what
}
