package court

import (
	"slices"

	"pinfold/api"
	"pinfold/herd"
	"pinfold/roll"
)

// kindsAhead is by how much the kind of a command that writes a record is greater than that of the record.
const kindsAhead = api.CmdBorn - api.EvBorn

// numbersAhead is how many numbers such a command has ahead of those that the Text of the record has.
const numbersAhead = 3

// notings are the commands that write records.
func (t *task) notings() map[int]way {
	return map[int]way{
		api.CmdBorn: t.event, api.CmdStray: t.event, api.CmdSold: t.event, api.CmdSeen: t.event, api.CmdFound: t.event, api.CmdDied: t.event,
		api.CmdHold: t.deed, api.CmdRight: t.deed, api.CmdOwner: t.deed, api.CmdSplit: t.deed,
		api.CmdJoined: t.deed, api.CmdLet: t.deed, api.CmdOpen: t.deed, api.CmdClose: t.deed,
		api.CmdHeld: t.held, api.CmdClaimed: t.noted, api.CmdFreed: t.noted, api.CmdJudged: t.noted, api.CmdFinding: t.finding,
		api.CmdWithdraw: t.withdraw,
	}
}

// texted are the numbers that the Text of the record has.
func (t *task) texted() []int { return t.args[numbersAhead:] }

// record is the one that the command writes, at the next item of its manor.
func (t *task) record() api.Record {
	have := need(roll.Have(t.book(t.manor())))
	return api.Record{
		At: api.Item{Manor: t.manor(), No: have[t.manor()]}, Kind: t.kind - kindsAhead,
		Day: t.args[1], Known: t.args[2], Text: digits(t.texted()...),
	}
}

// note writes a record, and answers with its item.
func (t *task) note(r api.Record) []string {
	m, r, e := roll.Note(t.offices[t.manor()], r)
	refuse(e)
	t.offices[t.manor()] = m
	return one(worded("record", r.At.Manor, r.At.No))
}

func (t *task) event() []string {
	r := t.record()
	x := need(herd.Read(api.Event{At: r.At, Kind: r.Kind, Day: r.Day, Known: r.Known}, r.Text))
	r.Text = need(herd.Write(x))
	return t.note(r)
}

// noteSaid writes the record of the command, if what it says is right.
func noteSaid[T any](t *task, with func(r api.Record, numbers []int) (T, api.Errno)) []string {
	r := t.record()
	need(with(r, t.texted()))
	return t.note(r)
}

func (t *task) deed() []string { return noteSaid(t, deedWith) }

func (t *task) held() []string { return noteSaid(t, stayWith) }

func (t *task) noted() []string { return noteSaid(t, noteWith) }

func (t *task) finding() []string { return noteSaid(t, findingWith) }

func (t *task) withdraw() []string {
	of, l := api.Item{Manor: t.manor(), No: t.args[2]}, t.offices[t.manor()].Written
	i := slices.IndexFunc(l, func(r api.Record) bool { return r.At == of })
	require(i >= 0, api.ErrNone)
	done := slices.ContainsFunc(l, func(r api.Record) bool { return r.Kind == api.RecWithdraw && r.Of == of })
	require(l[i].Kind != api.RecWithdraw && l[i].Kind != api.RecFinding && !done, api.ErrArg)
	return t.note(api.Record{Kind: api.RecWithdraw, Known: t.args[1], Of: of})
}
