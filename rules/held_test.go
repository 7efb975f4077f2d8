package rules

import (
	"bytes"
	"fmt"
	"math/rand"
	"reflect"
	"strings"
	"testing"

	"tocsin/api"
	"tocsin/cond"
	"tocsin/wire"
)

// A pair is a set, and the model of it: the same calls are made on both.
type pair struct {
	t testing.TB
	s *Set
	m *model
}

func newPair(t testing.TB, user string) *pair {
	t.Helper()
	m, ok := modelNew(user)
	if !ok {
		t.Fatalf("R1: %q is no user's name", user)
	}
	return &pair{t: t, s: made(t, user), m: m}
}

func (p *pair) held(call string, got, want api.Errno) bool {
	p.t.Helper()
	if got != want {
		p.t.Errorf("%s: %d, want %d", call, got, want)
	}
	return got == want
}

func (p *pair) put(kind, id, rule, before, after string) bool {
	p.t.Helper()
	return p.held(fmt.Sprintf("R2: Put(%q, %q, %s, %q, %q)", kind, id, rule, before, after), p.s.Put(kind, id, value(p.t, rule), before, after), p.m.put(kind, id, rule, before, after))
}

func (p *pair) remove(kind, id string) bool {
	p.t.Helper()
	return p.held(fmt.Sprintf("R3: Delete(%q, %q)", kind, id), p.s.Delete(kind, id), p.m.remove(kind, id))
}

func (p *pair) enable(kind, id string, on bool) bool {
	p.t.Helper()
	return p.held(fmt.Sprintf("R3: Enable(%q, %q, %v)", kind, id, on), p.s.Enable(kind, id, on), p.m.enable(kind, id, on))
}

func (p *pair) setActions(kind, id, actions string) bool {
	p.t.Helper()
	return p.held(fmt.Sprintf("R3: SetActions(%q, %q, %s)", kind, id, actions), p.s.SetActions(kind, id, value(p.t, actions)), p.m.setActions(kind, id, actions))
}

// alike wants that the set is what the model is, in all that is to be seen.
func (p *pair) alike() bool {
	p.t.Helper()
	want := p.m.all()
	i := 0
	for r := range p.s.All() {
		if i < len(want) && line(r) != want[i].line() {
			p.t.Errorf("R4: rule %d is %s, want %s", i, line(r), want[i].line())
			return false
		}
		i++
	}
	if i != len(want) {
		p.t.Errorf("R4: %d rules, want %d", i, len(want))
		return false
	}
	if got := saved(p.s); got != string(p.m.save()) {
		p.t.Errorf("R7: saved as %q, want %q", got, p.m.save())
		return false
	}
	return true
}

func (r modelRule) line() string {
	return fmt.Sprintf("%s/%q own %v enabled %v %s %s", r.kind, r.id, r.own, r.enabled, strings.Join(r.conds, ";"), told(r.actions))
}

func (p *pair) printed() bool {
	p.t.Helper()
	if got := decoded(p.s.Print().Print()); !reflect.DeepEqual(got, p.m.print()) {
		p.t.Errorf("R6: printed as %v, want %v", got, p.m.print())
		return false
	}
	return true
}

func (p *pair) asked(f cond.Facts) bool {
	p.t.Helper()
	a, name := p.s.Evaluate(f)
	wantA, want := p.m.evaluate(f)
	if a != wantA || name != want {
		p.t.Errorf("R5: of %s: %q, %s; want %q, %s", f.Event.Print(), name, told(a), want, told(wantA))
	}
	return a == wantA && name == want
}

func someKinds() []string {
	return append(modelKinds(), "", "Override", "rooms")
}

func someIDs() []string {
	return []string{
		"a", "b", "c", "!a", "!b", "!c", "@a", "@b", "@c", "!", "@", "é", "a.", " ", "\x00", "\"", strings.Repeat("x", 60), "!" + strings.Repeat("é", 29),
		"", ".", ".a", ".master", ".notice", ".localpart", ".message", ".pair", "a/b", `!\`, "@/", "\xff", "!\xff", strings.Repeat("x", 61), "!" + strings.Repeat("é", 30),
	}
}

func someActions() []string {
	return []string{
		`[]`, `["notify"]`, `["dont_notify"]`, `["coalesce","notify"]`, `[{"set_tweak":"highlight"}]`, `["notify",{"set_tweak":"sound","value":"ding"},{"set_tweak":"highlight","value":true}]`,
		`[{"set_tweak":"sound","value":"a"},{"set_tweak":"sound","value":"\u0001é"}]`, `[{"set_tweak":"highlight","value":false},"notify"]`, `[{"set_tweak":"x"}]`,
		`null`, `{}`, `["x"]`, `[7]`, `[{"set_tweak":"sound","value":""}]`, `[{"set_tweak":"highlight","value":0}]`, `[{}]`,
	}
}

func someConditions() []string {
	return []string{
		``, `[]`, `[{"kind":"x"}]`, `[{"kind":"event_match","key":"type","pattern":"M.Room.*"}]`, `[{"kind":"room_member_count","is":">=02"},{"kind":"contains_display_name"}]`, `[{"kind":"event_property_is","key":"sender","value":"@b"},{"kind":"event_property_contains","key":"l","value":null},{"kind":"sender_notification_permission","key":"room"}]`,
		`[` + strings.Repeat(`{"kind":"room_member_count","is":"2"},`, 9) + `{"kind":"y"}]`,
		`null`, `{}`, `7`, `[{}]`, `[{"kind":"x"},7]`, `[` + strings.Repeat(`{"kind":"x"},`, 10) + `{"kind":"x"}]`,
	}
}

func somePatterns() []string {
	return []string{``, `""`, `"cake"`, `"CAKE*?"`, `"\\*\\\\"`, `"a b"`, `"` + strings.Repeat("x", 100) + `"`, `7`, `null`, `"\\a"`, `"` + strings.Repeat("x", 101) + `"`}
}

// ruleOf writes a rule; what is empty is not there.
func ruleOf(actions, conds, pattern string) string {
	text := `{"x":1`
	for _, m := range [][2]string{{"actions", actions}, {"conditions", conds}, {"pattern", pattern}} {
		if m[1] != "" {
			text += `,"` + m[0] + `":` + m[1]
		}
	}
	return text + "}"
}

func someFacts(t testing.TB) []cond.Facts {
	var all []cond.Facts
	for _, text := range []string{
		`null`, `{}`, `{"type":"m.room.message","room_id":"!a","sender":"@b","content":{"body":"Cake, Anna!"}}`, `{"type":"m.room.message","room_id":"!b","sender":"@a","l":[null],"content":{"body":"a b"}}`, `{"type":"m.room.member","state_key":"@anna:home","content":{"membership":"invite"}}`,
		`{"type":"m.reaction","room_id":"!a"}`, `{"type":"m.call.invite","room_id":"!","sender":"@"}`, `{"type":"m.room.encrypted","sender":"@b","l":[1,null]}`, `{"type":"m.room.message","content":{"msgtype":"m.notice","body":"cake"}}`,
		`{"type":"m.room.message","content":{"m.mentions":{"user_ids":["@anna:home"],"room":true},"m.relates_to":{"rel_type":"m.replace"}}}`, `{"type":"x","content":{"m.mentions":{"room":true}}}`, `{"content":{"m.relates_to":{"rel_type":"m.replace"},"body":"*\\"}}`,
	} {
		for _, joined := range []int{2, 3} {
			all = append(all, cond.Facts{Event: value(t, text), Joined: joined, Display: []string{"", "anna"}[joined%2], Level: 50 * (joined % 2), Needs: map[string]int{"room": 50}})
		}
	}
	return all
}

// Put over all kinds, IDs, actions, conditions and patterns, as a new rule and as one that is there.
func TestPutHeld(t *testing.T) {
	t.Parallel()
	for _, kind := range someKinds() {
		p := newPair(t, anna)
		for n, id := range someIDs() {
			for i, actions := range append(someActions(), "") {
				for j, conds := range someConditions() {
					for k, pattern := range somePatterns() {
						// Of those that differ in all three some will do, and of most IDs.
						if i > 1 && j > 1 && k > 1 && (i+j+k)%17 != 0 || n%3 != 0 && (n+i+j+k)%11 != 0 {
							continue
						}
						if !p.put(kind, id, ruleOf(actions, conds, pattern), "", "") {
							return
						}
					}
				}
			}
			if !p.alike() || !p.printed() {
				return
			}
		}
	}
}

// Put at all places, of a new rule and of one that is there.
func TestPlacesHeld(t *testing.T) {
	t.Parallel()
	for _, kind := range someKinds() {
		sign := map[string]string{"room": "!", "sender": "@"}[kind]
		places := []string{"", "a", "b", "c", sign + "a", sign + "b", sign + "c", sign + "d", sign + "x", ".notice", ".localpart", ".message", "\xff"}
		start := newPair(t, anna)
		for _, there := range []string{"d", "c", "b", "a"} {
			start.put(kind, sign+there, `{"actions":[],"pattern":"x"}`, "", "")
			start.put("override", there, `{"actions":[]}`, "", "")
		}
		start.enable(kind, sign+"b", false)
		for _, id := range []string{sign + "a", sign + "b", sign + "d", sign + "x", ".a"} {
			for _, before := range places {
				for _, after := range places {
					p := &pair{t: t, s: loaded(t, anna, saved(start.s)), m: start.m.copied()}
					if !p.put(kind, id, `{"actions":["notify"],"pattern":"y"}`, before, after) || !p.alike() {
						return
					}
				}
			}
		}
	}
}

// one makes some call, by chance, on both.
func (p *pair) one(by *rand.Rand) bool {
	pick := func(l []string) string { return l[by.Intn(len(l))] }
	mostly := func(good []string, any []string) string {
		if by.Intn(6) > 0 {
			return pick(good)
		}
		return pick(any)
	}
	kind := mostly(modelKinds(), someKinds())
	good := map[string][]string{"room": {"!a", "!b", "!c", "!d"}, "sender": {"@a", "@b", "@c", "@d"}}[kind]
	if good == nil {
		good = []string{"a", "b", "c", "d"}
	}
	id := mostly(good, someIDs())
	switch by.Intn(8) {
	case 0:
		return p.remove(kind, id)
	case 1:
		return p.enable(kind, mostly([]string{id}, someIDs()), by.Intn(2) == 0)
	case 2:
		var own []string
		for _, r := range p.m.own {
			if r.kind == kind {
				own = append(own, r.id)
			}
		}
		own = append(own, ".x")
		if by.Intn(2) == 0 {
			return p.enable(kind, pick(own), by.Intn(3) > 0)
		}
		return p.setActions(kind, pick(own), mostly(someActions()[:9], someActions()))
	case 3:
		return p.setActions(kind, id, mostly(someActions()[:9], someActions()))
	}
	before, after := "", ""
	switch by.Intn(6) {
	case 0, 1:
		before = mostly(good, someIDs())
	case 2, 3:
		after = mostly(good, someIDs())
	case 4:
		before, after = pick(good), mostly([]string{""}, good)
	}
	return p.put(kind, id, ruleOf(mostly(someActions()[:9], someActions()), mostly(someConditions()[:7], someConditions()), mostly(somePatterns()[1:7], somePatterns())), before, after)
}

func TestChanceHeld(t *testing.T) {
	t.Parallel()
	facts := someFacts(t)
	for seed := range int64(100) {
		by := rand.New(rand.NewSource(seed))
		p := newPair(t, []string{anna, "@b:home", "@a/x=.:h"}[seed%3])
		for range 50 {
			if !p.one(by) || !p.alike() || !p.asked(facts[by.Intn(len(facts))]) {
				t.Fatalf("(seed %d)", seed)
			}
			if by.Intn(10) == 0 && !p.printed() {
				t.Fatalf("(seed %d)", seed)
			}
			if by.Intn(20) == 0 { // it goes on as another one that was loaded
				p.s = loaded(t, []string{anna, "@b:home", "@a/x=.:h"}[seed%3], saved(p.s))
			}
		}
		for _, f := range facts {
			if !p.asked(f) {
				t.Fatalf("(seed %d)", seed)
			}
		}
	}
}

// loads holds Load of some bytes against the model: what it takes is written again as it was.
func loads(t *testing.T, user string, b []byte) bool {
	t.Helper()
	r := wire.NewReader(b)
	s, errno := Load(user, r)
	m, left, want := modelLoad(user, b)
	if errno != want || (s == nil) != (errno != api.OK) {
		t.Errorf("R7, P2: Load of %q: %v, %d, want %d", b, s != nil, errno, want)
		return false
	}
	if errno != api.OK {
		return true
	}
	p := &pair{t: t, s: s, m: m}
	if read := b[:len(b)-len(left)]; !p.alike() || saved(s) != string(read) {
		t.Errorf("R7: Load of %q gives a set that is saved as %q", read, saved(s))
		return false
	}
	var rest []byte
	for !r.End() && r.Err() == nil {
		at := len(rest)
		if at < len(left) && left[at] > 1 {
			return true // no truths: how far the reader is was seen
		}
		rest = append(rest, 0)
		if r.Flag() {
			rest[at] = 1
		}
	}
	if !bytes.Equal(rest, left) {
		t.Errorf("R7: behind Load of %q the reader has %v left, want %v", b, rest, left)
		return false
	}
	return true
}

// Each byte of what was saved becomes others, is left out, or stands twice.
func TestLoadHeld(t *testing.T) {
	t.Parallel()
	b := []byte(saved(filled(t)))
	for i := range b {
		for _, x := range []byte{0, 1, 2, 9, 10, 11, 12, 40, 41, '"', '!', '.', '/', '@', 'A', 'a', 'b', '\\', 'x', '{', 0x7f, 0x80, 0xc3, 0xff, b[i] + 1, b[i] - 1, b[i] ^ 0x20} {
			hurt := bytes.Clone(b)
			hurt[i] = x
			if !loads(t, anna, hurt) {
				return
			}
		}
		if !loads(t, anna, append(bytes.Clone(b[:i]), b[i+1:]...)) || !loads(t, anna, append(bytes.Clone(b[:i+1]), b[i:]...)) || !loads(t, anna, b[:i]) {
			return
		}
	}
	for _, tail := range []string{"", "\x00", "\x01\x00\x01", "\x01\x01\x01\x01\x01\x01"} {
		if !loads(t, anna, append(bytes.Clone(b), tail...)) {
			return
		}
	}
	if !loads(t, "@", b) || !loads(t, "@other:h", b) {
		return
	}
}

// Sets by chance, saved, and some bytes of that changed.
func TestLoadByChance(t *testing.T) {
	t.Parallel()
	for seed := range int64(40) {
		by := rand.New(rand.NewSource(seed))
		p := newPair(t, anna)
		for range 25 {
			p.one(by)
		}
		b := p.m.save()
		if !loads(t, anna, b) {
			t.Fatalf("(seed %d)", seed)
		}
		for range 40 {
			hurt := bytes.Clone(b)
			for range 1 + by.Intn(3) {
				from := by.Intn(len(hurt))
				to := min(len(hurt), from+by.Intn(4))
				into := make([]byte, by.Intn(4))
				for i := range into {
					into[i] = []byte{0, 1, 2, 3, '!', '@', '.', 'a', 'b', '"', 0xff, 12}[by.Intn(12)]
				}
				hurt = append(append(bytes.Clone(hurt[:from]), into...), hurt[to:]...)
				if len(hurt) == 0 {
					break
				}
			}
			if !loads(t, anna, hurt) {
				t.Fatalf("(seed %d)", seed)
			}
		}
	}
	// Bytes without any meaning.
	by := rand.New(rand.NewSource(7))
	for range 3000 {
		b := make([]byte, by.Intn(80))
		for i := range b {
			b[i] = byte(by.Intn(1 << (1 + by.Intn(8))))
		}
		if !loads(t, anna, b) {
			return
		}
	}
}
