package march_test

import (
	"fmt"
	"regexp"
	"slices"
	"strconv"
	"strings"

	"pinfold/api"
)

// What the chapter says, told again by looking back through the entries: nothing is kept from entry to entry.

func retoldValidEntry(x api.Entry) bool {
	beast := 1 <= x.Beast && x.Beast <= 9999
	switch x.Kind {
	case 1, 2:
		return beast && x.Other == 0 && x.No == 0
	case 3, 4, 5, 6, 7, 8:
		return beast && 0 <= x.Other && x.Other <= 5 && 1 <= x.No && x.No <= 200
	}
	return false
}

// has reports whether a journal has an entry of one of some kinds with these.
func has(l []api.Entry, other, no int, kinds ...int) bool {
	return slices.ContainsFunc(l, func(x api.Entry) bool { return x.Other == other && x.No == no && slices.Contains(kinds, x.Kind) })
}

// isHere goes by the last entry that says where a beast is.
func isHere(l []api.Entry, beast int) bool {
	for _, x := range slices.Backward(l) {
		if x.Beast != beast {
			continue
		}
		switch x.Kind {
		case api.EnPound, api.EnTake, api.EnBack:
			return true
		case api.EnRelease, api.EnSend:
			return false
		}
	}
	return false
}

func retoldHere(l []api.Entry) []int {
	var beasts []int
	for _, x := range l {
		if isHere(l, x.Beast) && !slices.Contains(beasts, x.Beast) {
			beasts = append(beasts, x.Beast)
		}
	}
	slices.Sort(beasts)
	return beasts
}

func retoldSent(l []api.Entry) int {
	n := 0
	for _, x := range l {
		if x.Kind == api.EnSend {
			n++
		}
	}
	return n
}

func retoldRides(l []api.Entry) []api.Ride {
	var rides []api.Ride
	for _, x := range l {
		if x.Kind == api.EnSend && !has(l, x.Other, x.No, api.EnDone, api.EnBack) {
			rides = append(rides, api.Ride{No: x.No, To: x.Other, Beast: x.Beast, Called: has(l, x.Other, x.No, api.EnCall)})
		}
	}
	return rides
}

func isRiding(l []api.Entry, beast int) bool {
	return slices.ContainsFunc(retoldRides(l), func(r api.Ride) bool { return r.Beast == beast })
}

func retoldKnows(l []api.Entry, from, no int) int {
	for _, kind := range []int{api.EnTake, api.EnRefuse} {
		if has(l, from, no, kind) {
			return kind
		}
	}
	return 0
}

// retoldMayBe reports whether an entry is valid, and may be behind others.
func retoldMayBe(me int, l []api.Entry, x api.Entry) bool {
	if !retoldValidEntry(x) {
		return false
	}
	rides := retoldRides(l)
	ride := api.Ride{No: x.No, To: x.Other, Beast: x.Beast}
	calledRide := ride
	calledRide.Called = true
	unknown := x.Other != me && retoldKnows(l, x.Other, x.No) == 0
	switch x.Kind {
	case api.EnPound:
		return !isHere(l, x.Beast) && !isRiding(l, x.Beast)
	case api.EnRelease:
		return isHere(l, x.Beast)
	case api.EnSend:
		return isHere(l, x.Beast) && x.Other != me && x.No == retoldSent(l)+1
	case api.EnCall:
		return slices.Contains(rides, ride)
	case api.EnDone:
		return slices.Contains(rides, ride) || slices.Contains(rides, calledRide)
	case api.EnBack:
		return slices.Contains(rides, calledRide)
	case api.EnTake:
		return unknown && !isHere(l, x.Beast) && !isRiding(l, x.Beast)
	}
	return unknown
}

func retoldValid(p api.Pound) bool {
	if p.Me < 0 || p.Me > 5 || len(p.Journal) > 200 || p.Firm < 0 || p.Firm > len(p.Journal) {
		return false
	}
	for i, x := range p.Journal {
		if !retoldMayBe(p.Me, p.Journal[:i], x) {
			return false
		}
	}
	return true
}

func retoldCheck(p api.Pound) api.Errno {
	if retoldValid(p) {
		return api.OK
	}
	return api.ErrJournal
}

// retoldPut is a valid pound with one more entry.
func retoldPut(p api.Pound, x api.Entry) (api.Pound, api.Errno) {
	if len(p.Journal) == 200 {
		return api.Pound{}, api.ErrLong
	}
	return with(p, x), api.OK
}

func retoldImpound(p api.Pound, beast int) (api.Pound, api.Errno) {
	if isHere(p.Journal, beast) || isRiding(p.Journal, beast) {
		return api.Pound{}, api.ErrHere
	}
	return retoldPut(p, en(api.EnPound, beast))
}

func retoldRelease(p api.Pound, beast int) (api.Pound, api.Errno) {
	if !isHere(p.Journal, beast) {
		return api.Pound{}, api.ErrGone
	}
	return retoldPut(p, en(api.EnRelease, beast))
}

func retoldSend(p api.Pound, beast, to int) (pair[api.Pound, api.Ride], api.Errno) {
	if to == p.Me {
		return pair[api.Pound, api.Ride]{}, api.ErrManor
	}
	if !isHere(p.Journal, beast) {
		return pair[api.Pound, api.Ride]{}, api.ErrGone
	}
	no := retoldSent(p.Journal) + 1
	p, e := retoldPut(p, en(api.EnSend, beast, to, no))
	if e != api.OK {
		return pair[api.Pound, api.Ride]{}, e
	}
	return pair[api.Pound, api.Ride]{p, api.Ride{No: no, To: to, Beast: beast}}, e
}

func retoldCall(p api.Pound, no int) (api.Pound, api.Errno) {
	for _, r := range retoldRides(p.Journal) {
		if r.No == no && !r.Called {
			return retoldPut(p, en(api.EnCall, r.Beast, r.To, no))
		}
	}
	return api.Pound{}, api.ErrRide
}

// retoldHear is of a valid rider to a valid pound.
func retoldHear(p api.Pound, r api.Rider) (api.Pound, api.Errno) {
	kind := [...]int{0, api.EnTake, api.EnDone, api.EnRefuse, api.EnBack}[r.Kind]
	x := en(kind, r.Beast, r.From, r.No)
	if !retoldMayBe(p.Me, p.Journal, x) {
		return p, api.OK
	}
	return retoldPut(p, x)
}

func retoldCrash(p api.Pound, keep int) api.Pound {
	many := len(p.Journal) - p.Firm + 1
	k := (keep%many + many) % many
	return poundOf(p.Me, p.Firm+k, p.Journal[:p.Firm+k]...)
}

func retoldOut(p api.Pound, to int) []api.Rider {
	var out []api.Rider
	l := p.Journal[:p.Firm]
	for _, r := range retoldRides(l) {
		if r.To == to && r.Called {
			out = append(out, rider(api.RdRecall, p.Me, to, r.Beast, r.No))
		} else if r.To == to {
			out = append(out, rider(api.RdOffer, p.Me, to, r.Beast, r.No))
		}
	}
	for no := range 201 {
		for _, x := range l {
			if x.Other == to && x.No == no && x.Kind == api.EnTake {
				out = append(out, rider(api.RdReceipt, p.Me, to, x.Beast, no))
			}
			if x.Other == to && x.No == no && x.Kind == api.EnRefuse {
				out = append(out, rider(api.RdRefused, p.Me, to, x.Beast, no))
			}
		}
	}
	return out
}

func retoldTrace(p api.Pound, beast int) []api.Entry {
	return slices.DeleteFunc(slices.Clone(p.Journal), func(x api.Entry) bool { return x.Beast != beast })
}

func retoldWhere(l []api.Pound, beast int) []int {
	var manors []int
	for _, p := range l {
		if isHere(p.Journal, beast) {
			manors = append(manors, p.Me)
		}
	}
	return manors
}

func retoldRiding(l []api.Pound, beast int) []api.Ride {
	var rides []api.Ride
	for _, p := range l {
		for _, r := range retoldRides(p.Journal) {
			taken := slices.ContainsFunc(l, func(q api.Pound) bool { return q.Me == r.To && has(q.Journal, p.Me, r.No, api.EnTake) })
			if r.Beast == beast && !taken {
				rides = append(rides, r)
			}
		}
	}
	return rides
}

func retoldPrint(p api.Pound) string {
	text := fmt.Sprintf("pound %d %d\n", p.Me, p.Firm)
	for _, x := range p.Journal {
		word := [...]string{"", "pound", "release", "send", "call", "done", "back", "take", "refuse"}[x.Kind]
		if x.Kind <= 2 {
			text += fmt.Sprintf("%s %d\n", word, x.Beast)
		} else {
			text += fmt.Sprintf("%s %d %d %d\n", word, x.Beast, x.Other, x.No)
		}
	}
	return text
}

// The forms of a text's lines.
var (
	headForm  = regexp.MustCompile(`\Apound( (?:0|[1-9][0-9]{0,4})){2}\n\z`)
	beastForm = regexp.MustCompile(`\A(?:pound|release)( (?:0|[1-9][0-9]{0,4}))\n\z`)
	rideForm  = regexp.MustCompile(`\A(?:send|call|done|back|take|refuse)( (?:0|[1-9][0-9]{0,4})){3}\n\z`)
)

func retoldParse(text string) (pair[api.Pound, int], api.Errno) {
	if len(text) > 8000 {
		return pair[api.Pound, int]{}, api.ErrLong
	}
	lines := strings.SplitAfter(text, "\n")
	if len(lines) > 1 && lines[len(lines)-1] == "" {
		lines = lines[:len(lines)-1]
	}
	var p api.Pound
	for i, line := range lines {
		right := i == 0 && headForm.MatchString(line) || i > 0 && (beastForm.MatchString(line) || rideForm.MatchString(line))
		if !right {
			return pair[api.Pound, int]{B: i + 1}, api.ErrText
		}
		words := strings.Fields(line)
		var n [3]int
		for k, word := range words[1:] {
			n[k], _ = strconv.Atoi(word)
		}
		if i == 0 {
			p.Me, p.Firm = n[0], n[1]
		} else {
			kind := slices.Index([]string{"", "pound", "release", "send", "call", "done", "back", "take", "refuse"}, words[0])
			p.Journal = append(p.Journal, api.Entry{Kind: kind, Beast: n[0], Other: n[1], No: n[2]})
		}
	}
	if !retoldValid(p) {
		return pair[api.Pound, int]{}, api.ErrJournal
	}
	return pair[api.Pound, int]{A: p}, api.OK
}
