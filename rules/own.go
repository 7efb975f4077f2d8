package rules

import (
	"tocsin/api"
	"tocsin/cond"
	"tocsin/jsonval"
)

// master is the own rule that is asked ahead of all, and the only one that is not enabled at first.
const master = ".master"

// ownRules makes the server's own rules of a user, whose name has this local part: the document's table, row by row.
func ownRules(user string, local string) (own [kinds][]Rule) {
	add := func(k kind, id string, actions api.Actions, conds ...*cond.Cond) {
		own[k] = append(own[k], Rule{Kind: k.name(), ID: id, Own: true, Enabled: id != master, Conds: conds, Actions: actions})
	}
	nothing := api.Actions{}
	notify := api.Actions{Notify: true}
	sound := api.Actions{Notify: true, Sound: "default"}
	ring := api.Actions{Notify: true, Sound: "ring"}
	highlight := api.Actions{Notify: true, Highlight: true}
	both := api.Actions{Notify: true, Highlight: true, Sound: "default"}
	me := jsonval.OfText(user)

	add(override, master, nothing)
	add(override, ".notice", nothing, match("content.msgtype", "m.notice"))
	add(override, ".invite", sound, match("type", "m.room.member"), match("content.membership", "invite"), is("state_key", me))
	add(override, ".member", nothing, match("type", "m.room.member"))
	add(override, ".mention", both, contains(`content.m\.mentions.user_ids`, me))
	add(override, ".name", both, condition("contains_display_name", members{}))
	add(override, ".everybody", highlight, is(`content.m\.mentions.room`, jsonval.OfBool(true)), permission("room"))
	add(override, ".reaction", nothing, match("type", "m.reaction"))
	add(override, ".edit", nothing, is(`content.m\.relates_to.rel_type`, jsonval.OfText("m.replace")))
	add(content, ".localpart", both, bodyMatch(local))
	add(underride, ".call", ring, match("type", "m.call.invite"))
	add(underride, ".pair", sound, joined("2"), match("type", "m.room.message"))
	add(underride, ".message", notify, match("type", "m.room.message"))
	add(underride, ".sealed", notify, match("type", "m.room.encrypted"))
	return own
}
