package court

import (
	"slices"

	"pinfold/api"
	"pinfold/march"
	"pinfold/roll"
)

// travels are the commands of letters, pounds and riders.
func (t *task) travels() map[int]way {
	return map[int]way{
		api.CmdAsk: t.ask, api.CmdDeliver: t.deliver, api.CmdLose: t.lose, api.CmdDouble: t.double, api.CmdRestart: t.restart,
		api.CmdImpound: t.impound, api.CmdRelease: t.release, api.CmdSend: t.send, api.CmdCall: t.call,
		api.CmdDry: t.dry, api.CmdWreck: t.wreck,
		api.CmdOut: t.out, api.CmdHear: t.hear, api.CmdDrop: t.drop,
	}
}

// underWay answers how many letters are under way.
func (t *task) underWay() []string { return one(worded("letters", len(t.letters))) }

func (t *task) ask() []string {
	m, x, e := roll.Ask(t.offices[t.manor()], t.args[1])
	refuse(e)
	t.letters = atMost(api.MaxLetters, slices.Concat(t.letters, []api.Letter{x}))
	t.offices[t.manor()] = m
	return t.underWay()
}

func (t *task) deliver() []string {
	x, rest := take(t.letters, t.args[0])
	// It is gone, whatever comes of it.
	t.letters = rest
	m, letters, e := roll.Receive(t.offices[x.To], x)
	refuse(e)
	t.offices[x.To] = m
	t.letters = slices.Concat(rest, letters)
	return t.underWay()
}

func (t *task) lose() []string {
	_, t.letters = take(t.letters, t.args[0])
	return t.underWay()
}

func (t *task) double() []string {
	x, _ := take(t.letters, t.args[0])
	t.letters = atMost(api.MaxLetters, slices.Concat(t.letters, []api.Letter{x}))
	return t.underWay()
}

func (t *task) restart() []string {
	n := t.args[1:]
	m := need(roll.Restart(t.offices[t.manor()], []int{n[0], n[1], n[2], 0, 0, 0, n[3]}))
	t.offices[t.manor()] = m
	return one(countOf(m))
}

// countOf is the line that tells how many records an office has.
func countOf(m api.Office) string { return worded("records", len(m.Written)) }

// pound is that of the manor which the command is for.
func (t *task) pound() api.Pound { return t.pounds[t.manor()] }

// keepPound puts another pound in the place of the one that the manor had.
func (t *task) keepPound(p api.Pound, e api.Errno) []string {
	refuse(e)
	t.pounds[t.manor()] = p
	return done()
}

func (t *task) impound() []string { return t.keepPound(march.Impound(t.pound(), t.args[1])) }

func (t *task) release() []string { return t.keepPound(march.Release(t.pound(), t.args[1])) }

func (t *task) send() []string {
	p, ride, e := march.Send(t.pound(), t.args[1], t.args[2])
	t.keepPound(p, e)
	return one(worded("ride", ride.No))
}

func (t *task) call() []string { return t.keepPound(march.Call(t.pound(), t.args[1])) }

func (t *task) dry() []string { return t.keepPound(march.Sync(t.pound())) }

func (t *task) wreck() []string { return t.keepPound(march.Crash(t.pound(), t.args[1])) }

// onTheirWay answers how many riders are under way.
func (t *task) onTheirWay() []string { return one(worded("riders", len(t.riders))) }

func (t *task) out() []string {
	riders := need(march.Out(t.pound(), t.args[1]))
	t.riders = atMost(api.MaxRiders, slices.Concat(t.riders, riders))
	return t.onTheirWay()
}

func (t *task) hear() []string {
	r, rest := take(t.riders, t.args[0])
	// It is gone, whatever comes of it.
	t.riders = rest
	t.pounds[r.To] = need(march.Hear(t.pounds[r.To], r))
	return t.onTheirWay()
}

func (t *task) drop() []string {
	_, t.riders = take(t.riders, t.args[0])
	return t.onTheirWay()
}
