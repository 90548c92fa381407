package court

import (
	"slices"

	"pinfold/api"
)

// task is a command that is being done at a court.
type task struct {
	*Court
	kind int
	args []int
}

// way does a command and returns its answer; it panics with an Errno if the command is refused, ahead of any change but that a letter or a rider is gone.
type way = func() []string

// findWay finds what the command does.
func (t *task) findWay() way {
	for _, some := range []func() map[int]way{t.setups, t.notings, t.travels, t.questions, t.dues} {
		if does, ok := some()[t.kind]; ok {
			return does
		}
	}
	return nil
}

// refuse leaves a command if there is an error.
func refuse(e api.Errno) {
	if e != api.OK {
		panic(e)
	}
}

// require leaves a command with an error unless something is so.
func require(ok bool, e api.Errno) { refuse(errorUnless(ok, e)) }

// need is what a function returns that has no error.
func need[T any](x T, e api.Errno) T {
	refuse(e)
	return x
}

// manor is the one that the command is for.
func (t *task) manor() int { return t.args[0] }

// lastDays are the day and the day as known on that the last two numbers are.
func (t *task) lastDays() api.When {
	n := len(t.args)
	return api.When{Day: t.args[n-2], Known: t.args[n-1]}
}

// put is a list with x at its place, instead of the one that it compares equal to.
func put[T any](l []T, x T, compare func(a, b T) int) []T {
	l = slices.Clone(l)
	i, there := slices.BinarySearchFunc(l, x, compare)
	if there {
		l[i] = x
		return l
	}
	return slices.Insert(l, i, x)
}

// atMost is a list that must not have more elements than so many.
func atMost[T any](most int, l []T) []T {
	require(len(l) <= most, api.ErrLong)
	return l
}

// take is the element of a list that a number chooses, and the list without it; ErrNone if there are none.
func take[T any](l []T, n int) (T, []T) {
	require(len(l) > 0, api.ErrNone)
	i := modulo(n, len(l))
	return l[i], slices.Concat(l[:i], l[i+1:])
}

// modulo is a modulo n, which is never negative (R5).
func modulo(a, n int) int {
	rest := a % n
	if rest < 0 {
		rest += n
	}
	return rest
}
