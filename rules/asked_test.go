package rules

import (
	"fmt"
	"iter"
	"slices"
	"strings"
	"sync"
	"testing"
	"time"

	"tocsin/api"
	"tocsin/cond"
	"tocsin/jsonval"
)

// filled is a set with two rules of the user's of each kind.
func filled(t testing.TB) *Set {
	t.Helper()
	s := made(t, anna)
	for _, id := range []string{"b", "a"} {
		add(t, s, "override", id, `{"actions":["notify"],"conditions":[{"kind":"x"},{"kind":"event_match","key":"type","pattern":"`+id+`"}]}`)
		add(t, s, "content", id, `{"actions":["notify",{"set_tweak":"sound","value":"`+id+`"}],"pattern":"`+id+`"}`)
		add(t, s, "room", "!"+id, `{"actions":["notify"]}`)
		add(t, s, "sender", "@"+id, `{"actions":[{"set_tweak":"highlight"}]}`)
		add(t, s, "underride", id, `{"actions":[]}`)
	}
	return s
}

func TestOrderOfAll(t *testing.T) {
	var got []string
	for r := range filled(t).All() {
		got = append(got, r.Kind+"/"+r.ID)
	}
	want := "override/.master override/a override/b override/.notice override/.invite override/.member override/.mention override/.name override/.everybody override/.reaction override/.edit " +
		"content/a content/b content/.localpart room/!a room/!b sender/@a sender/@b underride/a underride/b underride/.call underride/.pair underride/.message underride/.sealed"
	if strings.Join(got, " ") != want {
		t.Errorf("R4: %v, want %s", got, want)
	}
}

func TestAllStopsEarly(t *testing.T) {
	s := filled(t)
	want := lines(s)
	through := s.All()
	for n := range len(want) + 2 {
		var got []string
		for r := range through {
			if len(got) == n {
				break
			}
			got = append(got, line(r))
		}
		if !slices.Equal(got, want[:min(n, len(want))]) {
			t.Fatalf("R4: the first %d rules are %v", n, got)
		}
	}
	// Who has stopped is called no more.
	for stop := range len(want) {
		calls := 0
		through(func(Rule) bool {
			calls++
			return calls <= stop
		})
		if calls != stop+1 {
			t.Fatalf("R4: who stops at the call %d is called %d times", stop+1, calls)
		}
	}
	next, end := iter.Pull(through)
	for i := range 5 {
		if r, ok := next(); !ok || line(r) != want[i] {
			t.Errorf("R4: pulled, rule %d is %s", i, line(r))
		}
	}
	end()
	// Once within another time.
	for range through {
		if got := slices.Collect(through); len(got) != len(want) {
			t.Errorf("R4: within another time there are %d rules", len(got))
		}
		break
	}
}

// What is changed while one goes through does not show, whatever it is, and wherever one is.
func TestChangesWhileGoingThrough(t *testing.T) {
	changes := map[string]func(s *Set){
		"a new rule":           func(s *Set) { add(t, s, "underride", "new", `{"actions":[]}`) },
		"a new rule, first":    func(s *Set) { add(t, s, "override", "new", `{"actions":[]}`) },
		"another place":        func(s *Set) { put(t, s, "content", "a", `{"actions":[],"pattern":"new"}`, "", "b", api.OK) },
		"another rule":         func(s *Set) { add(t, s, "override", "b", `{"actions":[],"conditions":[{"kind":"new"}]}`) },
		"a rule less":          func(s *Set) { s.Delete("room", "!a") },
		"the first less":       func(s *Set) { s.Delete("override", "a") },
		"the last less":        func(s *Set) { s.Delete("underride", "b") },
		"enabled":              func(s *Set) { s.Enable("sender", "@b", false) },
		"an own one enabled":   func(s *Set) { s.Enable("override", ".master", true) },
		"an own one not":       func(s *Set) { s.Enable("underride", ".sealed", false) },
		"actions":              func(s *Set) { s.SetActions("content", "b", value(t, `[]`)) },
		"an own one's actions": func(s *Set) { s.SetActions("override", ".edit", value(t, `["notify"]`)) },
		"all less": func(s *Set) {
			for _, kind := range modelKinds() {
				for _, id := range []string{"a", "b", "!a", "!b", "@a", "@b"} {
					s.Delete(kind, id)
				}
			}
		},
	}
	for name, change := range changes {
		want := lines(filled(t))
		for at := range want {
			s := filled(t)
			through := s.All()
			var got []string
			for r := range through {
				if len(got) == at {
					change(s)
				}
				got = append(got, line(r))
			}
			if !slices.Equal(got, want) {
				t.Fatalf("R4: %s at rule %d shows:\n%s", name, at, strings.Join(got, "\n"))
			}
			// Who begins behind it sees it, by the same function too.
			changed := filled(t)
			change(changed)
			var again []string
			for r := range through {
				again = append(again, line(r))
			}
			if !slices.Equal(again, lines(changed)) || slices.Equal(again, want) {
				t.Fatalf("R4: %s at rule %d does not show to who begins behind it", name, at)
			}
		}
	}
}

// What is changed between All and the first rule shows: the rules are as they are when one begins.
func TestAllBeginsLate(t *testing.T) {
	s := made(t, anna)
	through := s.All()
	add(t, s, "room", "!late", `{"actions":[]}`)
	s.Enable("override", ".master", true)
	n := 0
	for r := range through {
		if n == 0 && !r.Enabled {
			t.Error("R4: .master is not enabled")
		}
		n++
	}
	if n != 15 {
		t.Errorf("R4: %d rules, want 15", n)
	}
}

func TestCondsAreTheCallers(t *testing.T) {
	s := filled(t)
	want := all(s)
	other, _ := condOf(`{"kind":"other"}`)
	var lists [][]*cond.Cond
	for range 2 {
		for r := range s.All() {
			lists = append(lists, r.Conds)
		}
	}
	for i, l := range lists {
		spare := l[:cap(l)]
		for j := range spare {
			spare[j] = other
		}
		for k, m := range lists[i+1:] {
			if slices.Contains(m, other) {
				t.Fatalf("P3: the lists Conds %d and %d share memory", i, i+1+k)
			}
		}
	}
	if all(s) != want {
		t.Error("R4, P3: who writes into Conds changes the set")
	}
}

// Each own rule, asked where it is the first that holds, enabled and not; behind it another one answers.
func TestEvaluateOwn(t *testing.T) {
	for _, c := range []struct {
		name    string
		event   string
		joined  int
		actions api.Actions
		behind  string // who answers, if it is not enabled
	}{
		{"override/.notice", `{"type":"m.room.message","content":{"msgtype":"m.notice"}}`, 3, nothing, "underride/.message"},
		{"override/.invite", `{"type":"m.room.member","state_key":"@anna:home","content":{"membership":"invite"}}`, 3, loud, "override/.member"},
		{"override/.member", `{"type":"m.room.member","state_key":"@anna:home","content":{"membership":"join"}}`, 3, nothing, ""},
		{"override/.member", `{"type":"m.room.member","state_key":"@annas:home","content":{"membership":"invite"}}`, 3, nothing, ""},
		{"override/.mention", `{"type":"m.room.message","content":{"m.mentions":{"user_ids":["@b:home","@anna:home"]}}}`, 3, both, "underride/.message"},
		{"override/.name", `{"type":"m.room.message","content":{"body":"Hi Lady A!"}}`, 3, both, "underride/.message"},
		{"override/.name", `{"type":"m.room.message","content":{"body":"Hi Lady A, or Anna"}}`, 3, both, "content/.localpart"},
		{"override/.everybody", `{"type":"m.room.message","content":{"m.mentions":{"room":true}}}`, 2, highlight, "underride/.pair"},
		{"override/.reaction", `{"type":"m.reaction","content":{"body":"anna"}}`, 2, nothing, "content/.localpart"},
		{"override/.edit", `{"type":"m.room.message","content":{"m.relates_to":{"rel_type":"m.replace"}}}`, 2, nothing, "underride/.pair"},
		{"content/.localpart", `{"type":"x","content":{"body":"ANNA"}}`, 2, both, ""},
		{"underride/.call", `{"type":"m.call.invite"}`, 2, ring, ""},
		{"underride/.pair", `{"type":"m.room.message"}`, 2, loud, "underride/.message"},
		{"underride/.message", `{"type":"m.room.message"}`, 1, notify, ""},
		{"underride/.sealed", `{"type":"m.room.encrypted"}`, 2, notify, ""},
	} {
		s := made(t, anna)
		f := cond.Facts{Event: value(t, c.event), Joined: c.joined, Display: "lady a", Level: 50}
		says(t, s, f, c.name, c.actions)
		kind, id, _ := strings.Cut(c.name, "/")
		if errno := s.SetActions(kind, id, value(t, `["notify",{"set_tweak":"sound","value":"mine"}]`)); errno != api.OK {
			t.Errorf("R3: SetActions(%s): %d", c.name, errno)
		}
		says(t, s, f, c.name, api.Actions{Notify: true, Sound: "mine"})
		s.Enable(kind, id, false)
		if _, name := s.Evaluate(f); name != c.behind {
			t.Errorf("R5: without %s, %s is told by %q, want %q", c.name, c.event, name, c.behind)
		}
		s.Enable("override", ".master", true)
		says(t, s, f, "override/.master", nothing)
		s.Enable("override", ".master", false)
		s.Enable(kind, id, true)
		says(t, s, f, c.name, api.Actions{Notify: true, Sound: "mine"})
	}
	// What almost is.
	s := made(t, anna)
	for _, text := range []string{
		`{"type":"x","content":{"m.mentions":{"user_ids":"@anna:home"}}}`, `{"type":"x","content":{"m.mentions":{"user_ids":["@Anna:home"]}}}`, `{"type":"x","content":{"m":{"mentions":{"user_ids":["@anna:home"]}}}}`,
		`{"type":"x","content":{"m.mentions":{"room":"true"}}}`, `{"type":"x","content":{"m.relates_to":{"rel_type":"m.Replace"}}}`, `{"type":"x","content":{"m.relates_to":{"rel_type":"m.annotation"}}}`,
		`{"type":"m.room.messages"}`, `{"type":"x","content":{"body":"annas"}}`, `{"type":["m.room.message"]}`, `{}`, `null`, `[]`,
	} {
		says(t, s, cond.Facts{Event: value(t, text), Joined: 2, Display: "lady a", Level: 100}, "", nothing)
	}
	everybody := cond.Facts{Event: value(t, `{"content":{"m.mentions":{"room":true}}}`), Level: 49}
	says(t, s, everybody, "", nothing)
	everybody.Needs = map[string]int{"room": 49}
	says(t, s, everybody, "override/.everybody", highlight)
}

// The user's rules stand ahead of the own ones of their kind, and behind .master.
func TestEvaluateUsers(t *testing.T) {
	f := cond.Facts{Event: value(t, `{"type":"m.room.message","room_id":"!r","sender":"@s","content":{"body":"hello Anna, cake?","msgtype":"m.notice"}}`), Joined: 2, Display: "anna", Level: 50}
	s := made(t, anna)
	row := []string{"override/.master", "override/first", "override/second", "override/.notice", "override/.name", "content/c", "content/.localpart", "room/!r", "sender/@s", "underride/u", "underride/.pair", "underride/.message"}
	one := `{"actions":["notify",{"set_tweak":"sound","value":"u"}],"pattern":"CAKE","conditions":[{"kind":"event_match","key":"type","pattern":"m.*"},{"kind":"room_member_count","is":"2"}]}`
	for _, name := range row {
		if kind, id, _ := strings.Cut(name, "/"); id[0] != '.' {
			put(t, s, kind, id, one, "", map[string]string{"second": "first"}[id], api.OK)
		}
	}
	s.Enable("override", ".master", true)
	for i, name := range row {
		kind, id, _ := strings.Cut(name, "/")
		a, got := s.Evaluate(f)
		if want := rule(t, s, kind, id).Actions; got != name || a != want {
			t.Fatalf("R5: without the first %d: %q, %s; want %q, %s", i, got, told(a), name, told(want))
		}
		s.Enable(kind, id, false)
	}
	says(t, s, f, "", nothing)
	// All conditions must hold; of none that is so.
	s = made(t, anna)
	for i, c := range []struct {
		conds string
		holds bool
	}{
		{`[]`, true}, {`[{"kind":"room_member_count","is":"2"}]`, true}, {`[{"kind":"room_member_count","is":"3"}]`, false},
		{`[{"kind":"room_member_count","is":"2"},{"kind":"room_member_count","is":"3"}]`, false}, {`[{"kind":"room_member_count","is":"3"},{"kind":"room_member_count","is":"2"}]`, false},
		{`[{"kind":"room_member_count","is":"2"},{"kind":"room_member_count","is":"2"},{"kind":"contains_display_name"}]`, true}, {`[{"kind":"weather"}]`, false},
	} {
		add(t, s, "override", "x", `{"actions":[],"conditions":`+c.conds+`}`)
		if _, name := s.Evaluate(f); (name == "override/x") != c.holds {
			t.Errorf("R5: row %d, %s: told by %q", i, c.conds, name)
		}
	}
}

func TestRoomsAndSenders(t *testing.T) {
	s := made(t, anna)
	add(t, s, "room", "!R", `{"actions":["notify"]}`)
	add(t, s, "sender", "@s*", `{"actions":[{"set_tweak":"highlight"}]}`)
	for text, want := range map[string]string{
		`{"room_id":"!R"}`: "room/!R", `{"room_id":"!r"}`: "", `{"room_id":"!R ","sender":"@s*"}`: "sender/@s*", `{"room_id":["!R"]}`: "", `{"sender":"@s"}`: "", `{"sender":"@sx"}`: "", `{"sender":"@S*"}`: "", `{"sender":"!R","room_id":"@s*"}`: "", `{"sender":"@s*","room_id":"!R"}`: "room/!R",
	} {
		if _, name := s.Evaluate(cond.Facts{Event: value(t, text)}); name != want {
			t.Errorf("R5: %s is told by %q, want %q", text, name, want)
		}
	}
}

func TestPrint(t *testing.T) {
	const empty = `{"content":[{"actions":["notify",{"set_tweak":"sound","value":"default"},{"set_tweak":"highlight","value":true}],"default":true,"enabled":true,"pattern":"anna","rule_id":".localpart"}],` +
		`"override":[{"actions":[],"conditions":[],"default":true,"enabled":false,"rule_id":".master"},` +
		`{"actions":[],"conditions":[{"key":"content.msgtype","kind":"event_match","pattern":"m.notice"}],"default":true,"enabled":true,"rule_id":".notice"},` +
		`{"actions":["notify",{"set_tweak":"sound","value":"default"}],"conditions":[{"key":"type","kind":"event_match","pattern":"m.room.member"},{"key":"content.membership","kind":"event_match","pattern":"invite"},{"key":"state_key","kind":"event_property_is","value":"@anna:home"}],"default":true,"enabled":true,"rule_id":".invite"},` +
		`{"actions":[],"conditions":[{"key":"type","kind":"event_match","pattern":"m.room.member"}],"default":true,"enabled":true,"rule_id":".member"},` +
		`{"actions":["notify",{"set_tweak":"sound","value":"default"},{"set_tweak":"highlight","value":true}],"conditions":[{"key":"content.m\\.mentions.user_ids","kind":"event_property_contains","value":"@anna:home"}],"default":true,"enabled":true,"rule_id":".mention"},` +
		`{"actions":["notify",{"set_tweak":"sound","value":"default"},{"set_tweak":"highlight","value":true}],"conditions":[{"kind":"contains_display_name"}],"default":true,"enabled":true,"rule_id":".name"},` +
		`{"actions":["notify",{"set_tweak":"highlight","value":true}],"conditions":[{"key":"content.m\\.mentions.room","kind":"event_property_is","value":true},{"key":"room","kind":"sender_notification_permission"}],"default":true,"enabled":true,"rule_id":".everybody"},` +
		`{"actions":[],"conditions":[{"key":"type","kind":"event_match","pattern":"m.reaction"}],"default":true,"enabled":true,"rule_id":".reaction"},` +
		`{"actions":[],"conditions":[{"key":"content.m\\.relates_to.rel_type","kind":"event_property_is","value":"m.replace"}],"default":true,"enabled":true,"rule_id":".edit"}],` +
		`"room":[],"sender":[],` +
		`"underride":[{"actions":["notify",{"set_tweak":"sound","value":"ring"}],"conditions":[{"key":"type","kind":"event_match","pattern":"m.call.invite"}],"default":true,"enabled":true,"rule_id":".call"},` +
		`{"actions":["notify",{"set_tweak":"sound","value":"default"}],"conditions":[{"is":"2","kind":"room_member_count"},{"key":"type","kind":"event_match","pattern":"m.room.message"}],"default":true,"enabled":true,"rule_id":".pair"},` +
		`{"actions":["notify"],"conditions":[{"key":"type","kind":"event_match","pattern":"m.room.message"}],"default":true,"enabled":true,"rule_id":".message"},` +
		`{"actions":["notify"],"conditions":[{"key":"type","kind":"event_match","pattern":"m.room.encrypted"}],"default":true,"enabled":true,"rule_id":".sealed"}]}`
	s := made(t, anna)
	if got := s.Print().Print(); got != empty {
		t.Errorf("R6: a new set prints\n%s, want\n%s", got, empty)
	}
	add(t, s, "override", "o", `{"actions":[{"set_tweak":"sound","value":"é"}],"conditions":[{"kind":"room_member_count","is":"==007","x":1},{"kind":"weather"}]}`)
	add(t, s, "content", "c", `{"actions":[{"set_tweak":"highlight"},"coalesce"],"pattern":"A*?\\*"}`)
	add(t, s, "room", "!r", `{"actions":["notify","notify"],"pattern":"x","conditions":[]}`)
	add(t, s, "sender", "@b", `{"actions":["dont_notify"]}`)
	add(t, s, "underride", "u", `{"actions":[{"set_tweak":"highlight"},"notify",{"set_tweak":"sound","value":"s"}]}`)
	s.Enable("sender", "@b", false)
	v := s.Print()
	for _, c := range []struct {
		kind string
		at   int
		want string
	}{
		{"override", 1, `{"actions":[{"set_tweak":"sound","value":"é"}],"conditions":[{"is":"7","kind":"room_member_count"},{"kind":"weather"}],"default":false,"enabled":true,"rule_id":"o"}`},
		{"content", 0, `{"actions":[{"set_tweak":"highlight","value":true}],"default":false,"enabled":true,"pattern":"a?*\\*","rule_id":"c"}`},
		{"room", 0, `{"actions":["notify"],"default":false,"enabled":true,"rule_id":"!r"}`},
		{"sender", 0, `{"actions":[],"default":false,"enabled":false,"rule_id":"@b"}`},
		{"underride", 0, `{"actions":["notify",{"set_tweak":"sound","value":"s"},{"set_tweak":"highlight","value":true}],"conditions":[],"default":false,"enabled":true,"rule_id":"u"}`},
	} {
		if got := v.Get(c.kind).Item(c.at).Print(); got != c.want {
			t.Errorf("R6: %s %d: %s, want %s", c.kind, c.at, got, c.want)
		}
	}
	for kind, n := range map[string]int{"override": 10, "content": 2, "room": 1, "sender": 1, "underride": 5} {
		if got := v.Get(kind); got.Kind() != jsonval.List || got.Len() != n {
			t.Errorf("R6: %s has %d rules, want %d", kind, got.Len(), n)
		}
	}
	if v.Kind() != jsonval.Object || v.Len() != 5 {
		t.Errorf("R6: %d members", v.Len())
	}
	was := v.Print()
	s.Delete("room", "!r")
	if v.Print() != was || s.Print().Print() == was {
		t.Error("R6: what was printed changes with the set, or the set does not change")
	}
}

// What was printed of a user's rule may be put again, and is the same rule.
func TestPrintedIsPut(t *testing.T) {
	s := filled(t)
	u := made(t, anna)
	v := s.Print()
	for _, kind := range modelKinds() {
		list := v.Get(kind)
		for i := list.Len() - 1; i >= 0; i-- {
			r := list.Item(i)
			if errno := u.Put(kind, r.Get("rule_id").Text(), r, "", ""); errno != api.OK && !r.Get("default").True() {
				t.Errorf("R2, R6: Put of %s: %d", r.Print(), errno)
			}
		}
	}
	if all(u) != all(s) {
		t.Error("R2, R6: what was printed, and put again, is not the same")
	}
}

func TestSetsAreApart(t *testing.T) {
	a, b, other := made(t, anna), made(t, anna), made(t, "@b:home")
	fresh, others := all(b), all(other)
	add(t, a, "override", "x", `{"actions":[]}`)
	for _, r := range slices.Collect(a.All()) {
		a.Enable(r.Kind, r.ID, !r.Enabled)
		a.SetActions(r.Kind, r.ID, value(t, `[{"set_tweak":"sound","value":"zzz"}]`))
	}
	if all(b) != fresh || all(made(t, anna)) != fresh || all(other) != others {
		t.Error("P4: sets have something in common")
	}
}

// A Value that is handed in is not changed, and Facts are neither changed nor kept.
func TestNothingIsWritten(t *testing.T) {
	text := `{"actions":["notify"],"conditions":[{"key":"z","kind":"sender_notification_permission"}]}`
	v := value(t, text)
	s := made(t, anna)
	s.Put("override", "z", v, "", "")
	s.SetActions("override", "z", v.Get("actions"))
	needs := map[string]int{"z": 7}
	f := cond.Facts{Event: value(t, `{}`), Level: 7, Needs: needs}
	says(t, s, f, "override/z", notify)
	if v.Print() != text || len(needs) != 1 || needs["z"] != 7 || f.Event.Print() != "{}" {
		t.Error("P3: what was handed in was written into")
	}
	needs["z"] = 8
	says(t, s, f, "", nothing)
	before := all(s)
	for range 3 {
		s.Evaluate(f)
		s.Print()
		saved(s)
	}
	if all(s) != before {
		t.Error("P4: asking changes the set")
	}
}

// A set that nobody changes may be asked by several at once: nothing is kept when it is asked.
func TestAskedAtOnce(t *testing.T) {
	s := filled(t)
	want := all(s)
	f := event(t, `{"type":"m.room.message","content":{"body":"a b"}}`, 2)
	var group sync.WaitGroup
	for range 8 {
		group.Go(func() {
			for range 20 {
				if _, name := s.Evaluate(f); name != "content/a" {
					t.Errorf("P4: told by %q", name)
				}
				if all(s) != want {
					t.Error("P4: asked by several at once, it answers otherwise")
				}
			}
		})
	}
	group.Wait()
}

func TestWrongArguments(t *testing.T) {
	s := filled(t)
	before := all(s)
	if errno := s.SetActions("override", "a", nil); errno != api.ErrRule {
		t.Errorf("R3, P1: SetActions of nil: %d, want ErrRule", errno)
	}
	if errno := s.SetActions("override", ".master", &jsonval.Value{}); errno != api.ErrRule {
		t.Errorf("R3, P1: SetActions of a zero Value: %d, want ErrRule", errno)
	}
	if errno := s.Put("override", "a", nil, "", ""); errno != api.ErrRule {
		t.Errorf("R2, P1: Put of nil: %d, want ErrRule", errno)
	}
	if set, errno := Load(anna, nil); set != nil || errno == api.OK {
		t.Errorf("P1: Load of no reader: %v, %d", set != nil, errno)
	}
	s.Save(nil)
	for _, f := range []cond.Facts{{}, {Event: &jsonval.Value{}}, {Joined: -1 << 63, Level: 1<<63 - 1, Display: "\xff", Needs: map[string]int{"": -1}}} {
		says(t, s, f, "underride/a", nothing)
	}
	if all(s) != before {
		t.Error("P2: what was refused has changed the set")
	}
}

// Of values that Parse would never give nothing is promised, but that all calls end, and none panics.
func TestUnsoundValues(t *testing.T) {
	deep := jsonval.OfText("x")
	for range 5000 {
		deep = jsonval.OfList(deep)
	}
	object := func(pairs ...any) *jsonval.Value {
		m := map[string]*jsonval.Value{}
		for i := 0; i < len(pairs); i += 2 {
			m[pairs[i].(string)] = pairs[i+1].(*jsonval.Value)
		}
		return jsonval.OfMap(m)
	}
	text := jsonval.OfText
	long := text(strings.Repeat("long ", 20000))
	many := make([]*jsonval.Value, 20000)
	for i := range many {
		many[i] = text("notify")
	}
	odd := []*jsonval.Value{deep, long, jsonval.OfList(many...), jsonval.OfList(deep), jsonval.OfList(long), jsonval.OfList(object("set_tweak", long)), jsonval.OfList(object("set_tweak", text("sound"), "value", long)),
		jsonval.OfList(object("set_tweak", text("x"), "value", deep)), jsonval.OfList(object("kind", text("event_property_is"), "key", text("a"), "value", long)), jsonval.OfList(object("kind", text("event_property_contains"), "key", text("a"), "value", deep)), jsonval.OfList(), nil}
	begun := time.Now()
	s := made(t, anna)
	for _, kind := range modelKinds() {
		for _, id := range []string{"a", "!a", "@a"} {
			for _, v := range odd {
				s.Put(kind, id, v, "", "")
				s.SetActions(kind, id, v)
				for _, w := range odd {
					s.Put(kind, id, object("actions", v, "conditions", w, "pattern", w), "", "")
					s.Put(kind, id, object("actions", jsonval.OfList(), "conditions", v, "pattern", w, "x", deep), "", "")
				}
				s.Evaluate(cond.Facts{Event: object("a", v, "content", object("body", v))})
			}
		}
	}
	lines(s)
	s.Print()
	saved(s)
	if took := time.Since(begun); took > 20*time.Second {
		t.Errorf("P1: it took %v", took)
	}
}

// A set as great as it may be is asked, printed, saved and loaded at once.
func TestGreatSets(t *testing.T) {
	t.Parallel()
	s := made(t, anna)
	for i := range 40 {
		conds := strings.TrimSuffix(strings.Repeat(`{"kind":"event_match","key":"content.body","pattern":"`+strings.Repeat("*x", 10)+`y"},`, 10), ",")
		for _, kind := range modelKinds() {
			add(t, s, kind, fmt.Sprint(map[string]string{"room": "!", "sender": "@"}[kind], "id", i), `{"actions":["notify"],"pattern":"*a*b*c*d*e*f*g","conditions":[`+conds+`]}`)
		}
	}
	begun := time.Now()
	f := event(t, `{"type":"x","content":{"body":"`+strings.Repeat("x a b c d ", 300)+`"}}`, 2)
	for range 20 {
		says(t, s, f, "", nothing)
	}
	if u := loaded(t, anna, saved(s)); all(u) != all(s) {
		t.Error("R7: Load of Save is not the same set")
	}
	if took := time.Since(begun); took > 20*time.Second {
		t.Errorf("P1: it took %v", took)
	}
}
