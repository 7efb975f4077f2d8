package rules

import (
	"bytes"
	"encoding/binary"
	"encoding/json"
	"regexp"
	"slices"
	"strings"
	"sync"
	"unicode/utf8"

	"tocsin/api"
	"tocsin/cond"
	"tocsin/glob"
	"tocsin/jsonval"
)

// The model that the calls are held against: it does what the chapter's words say, with the values of encoding/json, with conditions as printed texts, and with all of the user's rules in one row.

type modelRule struct {
	kind, id     string
	own, enabled bool
	conds        []string
	pattern      string
	actions      api.Actions
}

type model struct {
	users, own []modelRule
}

func modelKinds() []string { return []string{"override", "content", "room", "sender", "underride"} }

var userName = regexp.MustCompile(`\A@([a-z0-9._=/-]+):[a-z0-9.-]+\z`)

// table is that of the server's own, as JSON; U and L stand for the user's name and its local part.
const table = `[
["override",".master",false,[],[false,false,""]],
["override",".notice",true,[{"kind":"event_match","key":"content.msgtype","pattern":"m.notice"}],[false,false,""]],
["override",".invite",true,[{"kind":"event_match","key":"type","pattern":"m.room.member"},{"kind":"event_match","key":"content.membership","pattern":"invite"},{"kind":"event_property_is","key":"state_key","value":"U"}],[true,false,"default"]],
["override",".member",true,[{"kind":"event_match","key":"type","pattern":"m.room.member"}],[false,false,""]],
["override",".mention",true,[{"kind":"event_property_contains","key":"content.m\\.mentions.user_ids","value":"U"}],[true,true,"default"]],
["override",".name",true,[{"kind":"contains_display_name"}],[true,true,"default"]],
["override",".everybody",true,[{"kind":"event_property_is","key":"content.m\\.mentions.room","value":true},{"kind":"sender_notification_permission","key":"room"}],[true,true,""]],
["override",".reaction",true,[{"kind":"event_match","key":"type","pattern":"m.reaction"}],[false,false,""]],
["override",".edit",true,[{"kind":"event_property_is","key":"content.m\\.relates_to.rel_type","value":"m.replace"}],[false,false,""]],
["content",".localpart",true,[{"kind":"event_match","key":"content.body","pattern":"L"}],[true,true,"default"]],
["underride",".call",true,[{"kind":"event_match","key":"type","pattern":"m.call.invite"}],[true,false,"ring"]],
["underride",".pair",true,[{"kind":"room_member_count","is":"2"},{"kind":"event_match","key":"type","pattern":"m.room.message"}],[true,false,"default"]],
["underride",".message",true,[{"kind":"event_match","key":"type","pattern":"m.room.message"}],[true,false,""]],
["underride",".sealed",true,[{"kind":"event_match","key":"type","pattern":"m.room.encrypted"}],[true,false,""]]
]`

func decoded(text string) any {
	d := json.NewDecoder(strings.NewReader(text))
	d.UseNumber()
	var v any
	if err := d.Decode(&v); err != nil {
		panic(err)
	}
	return v
}

func encoded(v any) string {
	var b bytes.Buffer
	e := json.NewEncoder(&b)
	e.SetEscapeHTML(false)
	if err := e.Encode(v); err != nil {
		panic(err)
	}
	return b.String()
}

// condName gives how a condition is written in its one way; false: it is none.
func condName(text string) (string, bool) {
	c, ok := condOf(text)
	if !ok {
		return "", false
	}
	return c.Name(), true
}

// condOf reads a condition.
func condOf(text string) (*cond.Cond, bool) {
	v, err := jsonval.Parse([]byte(text))
	c, errno := cond.Parse(v)
	return c, err == nil && errno == api.OK
}

// modelNew is what the document says of New; false: ErrID.
func modelNew(user string) (*model, bool) {
	if m, known := models.Load(user); known {
		return m.(*model).copied(), true
	}
	m, ok := modelOf(user)
	if ok {
		models.Store(user, m.copied())
	}
	return m, ok
}

// models are those that were made: to make one takes a while.
var models sync.Map

func modelOf(user string) (*model, bool) {
	parts := userName.FindStringSubmatch(user)
	if parts == nil || len(user) > 60 {
		return nil, false
	}
	m := &model{}
	for _, row := range decoded(table).([]any) {
		row := row.([]any)
		r := modelRule{own: true, kind: row[0].(string), id: row[1].(string), enabled: row[2].(bool)}
		for _, c := range row[3].([]any) {
			text := strings.NewReplacer(`"U"`, `"`+user+`"`, `"L"`, `"`+parts[1]+`"`).Replace(encoded(c))
			name, ok := condName(text)
			if !ok {
				panic(text)
			}
			r.conds = append(r.conds, name)
		}
		if r.kind == "content" {
			r.pattern = parts[1]
		}
		a := row[4].([]any)
		r.actions = api.Actions{Notify: a[0].(bool), Highlight: a[1].(bool), Sound: a[2].(string)}
		m.own = append(m.own, r)
	}
	return m, true
}

// copied is one that has nothing in common with m.
func (m *model) copied() *model {
	return &model{users: slices.Clone(m.users), own: slices.Clone(m.own)}
}

// modelActions is what the document says of actions as a value; false: they are none.
func modelActions(v any) (a api.Actions, ok bool) {
	list, ok := v.([]any)
	if !ok || len(list) > 10 {
		return a, false
	}
	for _, item := range list {
		switch item := item.(type) {
		case string:
			if item == "notify" {
				a.Notify = true
			} else if item != "dont_notify" && item != "coalesce" {
				return a, false
			}
		case map[string]any:
			tweak, isText := item["set_tweak"].(string)
			value, there := item["value"]
			if !isText {
				return a, false
			}
			if tweak == "sound" {
				sound, isText := value.(string)
				if !isText || sound == "" || len(sound) > 60 {
					return a, false
				}
				a.Sound = sound
			}
			if tweak == "highlight" {
				on, isBool := value.(bool)
				if there && !isBool {
					return a, false
				}
				a.Highlight = on || !there
			}
		default:
			return a, false
		}
	}
	return a, true
}

func modelID(kind, id string) bool {
	if len(id) < 1 || len(id) > 60 || !utf8.ValidString(id) || strings.Contains(id, "/") || strings.Contains(id, `\`) {
		return false
	}
	return !(kind == "room" && id[0] != '!') && !(kind == "sender" && id[0] != '@')
}

// modelRead reads a user's rule of a value.
func modelRead(kind, id string, v any) (modelRule, api.Errno) {
	r := modelRule{kind: kind, id: id, enabled: true}
	rule, isObject := v.(map[string]any)
	actions, ok := modelActions(rule["actions"])
	if !modelID(kind, id) || !isObject || !ok {
		return r, api.ErrRule
	}
	r.actions = actions
	switch kind {
	case "override", "underride":
		conds, there := rule["conditions"]
		list, isList := conds.([]any)
		if there && !isList || len(list) > 10 {
			return r, api.ErrRule
		}
		for _, c := range list {
			name, ok := condName(encoded(c))
			if !ok {
				return r, api.ErrCond
			}
			r.conds = append(r.conds, name)
		}
	case "content":
		pattern, isText := rule["pattern"].(string)
		g, errno := glob.Compile(pattern)
		if !isText || errno != api.OK {
			return r, api.ErrRule
		}
		r.pattern = g.String()
	}
	r.conds = append(r.conds, modelConds(r)...)
	return r, api.OK
}

// modelConds are the conditions that a rule has by its kind.
func modelConds(r modelRule) []string {
	text := ""
	switch r.kind {
	case "content":
		text = encoded(map[string]any{"key": "content.body", "kind": "event_match", "pattern": r.pattern})
	case "room":
		text = encoded(map[string]any{"key": "room_id", "kind": "event_property_is", "value": r.id})
	case "sender":
		text = encoded(map[string]any{"key": "sender", "kind": "event_property_is", "value": r.id})
	default:
		return nil
	}
	name, ok := condName(text)
	if !ok {
		panic(text)
	}
	return []string{name}
}

// at gives the place of a rule in a row.
func at(list []modelRule, kind, id string) int {
	return slices.IndexFunc(list, func(r modelRule) bool { return r.kind == kind && r.id == id })
}

func (m *model) put(kind, id, text, before, after string) api.Errno {
	if !slices.Contains(modelKinds(), kind) {
		return api.ErrKind
	}
	if strings.HasPrefix(id, ".") {
		return api.ErrDefault
	}
	r, errno := modelRead(kind, id, decoded(text))
	if errno != api.OK {
		return errno
	}
	neighbour := before + after
	if before != "" && after != "" || neighbour != "" && (neighbour == id || at(m.users, kind, neighbour) < 0) {
		return api.ErrPlace
	}
	old := at(m.users, kind, id)
	if old < 0 {
		count := 0
		for _, u := range m.users {
			if u.kind == kind {
				count++
			}
		}
		if count >= 40 {
			return api.ErrMany
		}
	} else {
		r.enabled = m.users[old].enabled
	}
	if neighbour == "" && old >= 0 {
		m.users[old] = r
		return api.OK
	}
	var row []modelRule
	if neighbour == "" {
		row = append(row, r)
	}
	for _, u := range m.users {
		if u.kind == kind && u.id == before {
			row = append(row, r)
		}
		if !(u.kind == kind && u.id == id) {
			row = append(row, u)
		}
		if u.kind == kind && u.id == after {
			row = append(row, r)
		}
	}
	m.users = row
	return api.OK
}

func (m *model) remove(kind, id string) api.Errno {
	if !slices.Contains(modelKinds(), kind) {
		return api.ErrKind
	}
	if strings.HasPrefix(id, ".") {
		return api.ErrDefault
	}
	i := at(m.users, kind, id)
	if i < 0 {
		return api.ErrNoRule
	}
	m.users = slices.Concat(m.users[:i], m.users[i+1:])
	return api.OK
}

// change does something with a rule, an own one too.
func (m *model) change(kind, id string, do func(r *modelRule) api.Errno) api.Errno {
	if !slices.Contains(modelKinds(), kind) {
		return api.ErrKind
	}
	for _, list := range [][]modelRule{m.users, m.own} {
		if i := at(list, kind, id); i >= 0 {
			return do(&list[i])
		}
	}
	return api.ErrNoRule
}

func (m *model) enable(kind, id string, on bool) api.Errno {
	return m.change(kind, id, func(r *modelRule) api.Errno {
		r.enabled = on
		return api.OK
	})
}

func (m *model) setActions(kind, id, text string) api.Errno {
	return m.change(kind, id, func(r *modelRule) api.Errno {
		a, ok := modelActions(decoded(text))
		if !ok {
			return api.ErrRule
		}
		r.actions = a
		return api.OK
	})
}

// all is the order in which rules are asked.
func (m *model) all() []modelRule {
	row := []modelRule{m.own[0]}
	for _, kind := range modelKinds() {
		for _, r := range slices.Concat(m.users, m.own[1:]) {
			if r.kind == kind {
				row = append(row, r)
			}
		}
	}
	return row
}

func (m *model) evaluate(f cond.Facts) (api.Actions, string) {
	for _, r := range m.all() {
		holds := r.enabled
		for _, text := range r.conds {
			c, _ := condOf(text)
			holds = holds && c.Holds(f)
		}
		if holds {
			return r.actions, r.kind + "/" + r.id
		}
	}
	return api.Actions{}, ""
}

// print is what Print prints, as encoding/json reads it.
func (m *model) print() any {
	set := map[string]any{}
	for _, kind := range modelKinds() {
		list := []any{}
		for _, r := range m.all() {
			if r.kind == kind {
				list = append(list, r.print())
			}
		}
		set[kind] = list
	}
	return set
}

func (r modelRule) print() any {
	actions := []any{}
	if r.actions.Notify {
		actions = append(actions, "notify")
	}
	if r.actions.Sound != "" {
		actions = append(actions, map[string]any{"set_tweak": "sound", "value": r.actions.Sound})
	}
	if r.actions.Highlight {
		actions = append(actions, map[string]any{"set_tweak": "highlight", "value": true})
	}
	rule := map[string]any{"rule_id": r.id, "default": r.own, "enabled": r.enabled, "actions": actions}
	switch r.kind {
	case "override", "underride":
		conds := []any{}
		for _, text := range r.conds {
			conds = append(conds, decoded(text))
		}
		rule["conditions"] = conds
	case "content":
		rule["pattern"] = r.pattern
	}
	return rule
}

func modelText(b []byte, s string) []byte {
	return append(binary.AppendUvarint(b, uint64(len(s))), s...)
}

func modelFlag(b []byte, on bool) []byte {
	if on {
		return append(b, 1)
	}
	return append(b, 0)
}

func (r modelRule) saveActions(b []byte) []byte {
	return modelText(modelFlag(modelFlag(b, r.actions.Notify), r.actions.Highlight), r.actions.Sound)
}

// save is what Save writes.
func (m *model) save() []byte {
	var b []byte
	for _, kind := range modelKinds() {
		var list []byte
		count := uint64(0)
		for _, r := range m.users {
			if r.kind == kind {
				list = r.save(list)
				count++
			}
		}
		b = append(binary.AppendUvarint(b, count), list...)
	}
	for _, r := range m.own {
		b = r.saveActions(modelFlag(b, r.enabled))
	}
	return b
}

func (r modelRule) save(b []byte) []byte {
	b = modelFlag(modelText(b, r.id), r.enabled)
	switch r.kind {
	case "override", "underride":
		b = binary.AppendUvarint(b, uint64(len(r.conds)))
		for _, text := range r.conds {
			b = modelText(b, text)
		}
	case "content":
		b = modelText(b, r.pattern)
	}
	return r.saveActions(b)
}

// A modelReader gives up by panic, with ErrWire.
type modelReader struct{ left []byte }

func (r *modelReader) want(ok bool) {
	if !ok {
		panic(api.ErrWire)
	}
}

func (r *modelReader) count(most uint64) int {
	n, size := binary.Uvarint(r.left)
	r.want(size > 0 && n <= most && (size == 1 || r.left[size-1] != 0))
	r.left = r.left[size:]
	return int(n)
}

func (r *modelReader) text() string {
	n := r.count(uint64(len(r.left)))
	r.want(n <= len(r.left))
	s := string(r.left[:n])
	r.left = r.left[n:]
	return s
}

func (r *modelReader) flag() bool {
	r.want(len(r.left) > 0 && r.left[0] <= 1)
	on := r.left[0] == 1
	r.left = r.left[1:]
	return on
}

func (r *modelReader) actions() api.Actions {
	notify := r.flag()
	highlight := r.flag()
	sound := r.text()
	r.want(len(sound) <= 60 && utf8.ValidString(sound))
	return api.Actions{Notify: notify, Highlight: highlight, Sound: sound}
}

// modelLoad is what the document says of Load, and what bytes are left.
func modelLoad(user string, b []byte) (m *model, left []byte, errno api.Errno) {
	m, ok := modelNew(user)
	if !ok {
		return nil, b, api.ErrID
	}
	defer func() {
		if recover() != nil {
			m, left, errno = nil, nil, api.ErrWire
		}
	}()
	r := &modelReader{left: b}
	for _, kind := range modelKinds() {
		for range r.count(40) {
			m.users = append(m.users, m.loadRule(r, kind))
		}
	}
	for i := range m.own {
		m.own[i].enabled = r.flag()
		m.own[i].actions = r.actions()
	}
	return m, r.left, api.OK
}

func (m *model) loadRule(r *modelReader, kind string) modelRule {
	rule := modelRule{kind: kind, id: r.text()}
	r.want(modelID(kind, rule.id) && rule.id[0] != '.' && at(m.users, kind, rule.id) < 0)
	rule.enabled = r.flag()
	switch kind {
	case "override", "underride":
		for range r.count(10) {
			text := r.text()
			name, ok := condName(text)
			r.want(ok && name == text)
			rule.conds = append(rule.conds, text)
		}
	case "content":
		rule.pattern = r.text()
		g, errno := glob.Compile(rule.pattern)
		r.want(errno == api.OK && g.String() == rule.pattern)
	}
	rule.conds = append(rule.conds, modelConds(rule)...)
	rule.actions = r.actions()
	return rule
}
