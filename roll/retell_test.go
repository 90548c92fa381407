package roll_test

import (
	"cmp"
	"fmt"
	"regexp"
	"slices"
	"strconv"

	"pinfold/api"
	"pinfold/roll"
)

// The chapter, told again in a plain way: lines are read by a pattern, whether a record stands is followed from one to the next, and rolls are lists of records.

// retoldLine is the line of a record behind a running sum, and the sum behind it.
func retoldLine(sum int, r api.Record) (string, int) {
	body := fmt.Sprintf("%d %d %d %d %d %d %d %s", r.At.Manor, r.At.No, r.Kind, r.Day, r.Known, r.Of.Manor, r.Of.No, r.Text)
	for i := range len(body) {
		sum = (257*sum + int(body[i]) + 1) % 1000003
	}
	return fmt.Sprintf("%d %s\n", sum, body), sum
}

// retoldText is the text of records behind a running sum, and the sum behind it.
func retoldText(sum int, l []api.Record) (string, int) {
	text := ""
	for _, r := range l {
		line, behind := retoldLine(sum, r)
		text, sum = text+line, behind
	}
	return text, sum
}

// textOf is the text of records.
func textOf(l []api.Record) string {
	text, _ := retoldText(1, l)
	return text
}

// formOfLine is the form of lines, whatever their numbers are.
var formOfLine = regexp.MustCompile(`^(\d+) (\d+) (\d+) (\d+) (\d+) (\d+) (\d+) (\d+) ([ ->@-~]{0,160})\n`)

// retoldRead reads the line that a text begins with.
func retoldRead(sum int, text string) (api.Record, string, bool) {
	words := formOfLine.FindStringSubmatch(text)
	if words == nil {
		return api.Record{}, "", false
	}
	var n [7]int
	for i := range n {
		n[i], _ = strconv.Atoi(words[2+i])
	}
	r := api.Record{At: at(n[0], n[1]), Kind: n[2], Day: n[3], Known: n[4], Of: at(n[5], n[6]), Text: words[9]}
	line, _ := retoldLine(sum, r)
	return r, line, line == words[0] && roll.CheckRecord(r) == api.OK
}

// retoldScan reads the lines that a text begins with, one after the other.
func retoldScan(text string) ([]api.Record, string) {
	var l []api.Record
	read := ""
	for len(l) < 60 {
		_, sum := retoldText(1, l)
		r, line, ok := retoldRead(sum, text[len(read):])
		if !ok || r.At.No != retoldHave(l)[r.At.Manor] {
			break
		}
		l, read = append(l, r), read+line
	}
	return l, read
}

// retoldHave counts the records of each manor.
func retoldHave(l []api.Record) [6]int {
	var have [6]int
	for _, r := range l {
		have[r.At.Manor]++
	}
	return have
}

// retoldSorted are records by their items.
func retoldSorted(l []api.Record) []api.Record {
	turned := slices.Clone(l)
	slices.SortFunc(turned, func(a, b api.Record) int {
		return cmp.Compare(10000*a.At.Manor+a.At.No, 10000*b.At.Manor+b.At.No)
	})
	return turned
}

// retoldStands reports whether the record of an item stands: no withdrawal that is known by a day, and stands, names it.
func retoldStands(l []api.Record, item api.Item, known int) bool {
	return !slices.ContainsFunc(l, func(r api.Record) bool {
		return r.Kind == 0 && r.Of == item && r.Known <= known && retoldStands(l, r.At, known)
	})
}

// retoldModulo is a modulo n.
func retoldModulo(a, n int) int { return ((a % n) + n) % n }

// A tear is what the picks do to wet ink: how many bytes stay, and which one of them is smudged, or -1.
type tear struct{ stay, smudged int }

// retoldTear takes three picks behind so many others.
func retoldTear(picks []int, behind, wet int) tear {
	var three [3]int
	for i := range three {
		if len(picks) > 0 {
			three[i] = picks[(behind+i)%len(picks)]
		}
	}
	x := tear{retoldModulo(three[0], wet+1), -1}
	if retoldModulo(three[1], 2) == 1 && x.stay > 0 {
		x.smudged = retoldModulo(three[2], x.stay)
	}
	return x
}

// of is what is left of wet ink.
func (x tear) of(wet string) string {
	left := wet[:x.stay]
	if x.smudged >= 0 {
		left = left[:x.smudged] + "?" + left[x.smudged+1:]
	}
	return left
}

// A ledger is an office, told by records: those that were sealed, and those that were written since then.
type ledger struct {
	me       int
	dry, wet []api.Record
	known    [6][6]int
}

func (k ledger) all() []api.Record { return slices.Concat(k.dry, k.wet) }

func (k ledger) office() api.Office {
	m := officeOf(k.me, k.dry, k.wet)
	m.Known = k.known
	return m
}

func (k *ledger) seal() { k.dry, k.wet = k.all(), nil }

func (k *ledger) write(r api.Record) api.Errno {
	for _, s := range k.all() {
		if s.At == r.At {
			if s == r {
				return api.OK
			}
			return api.ErrDiffer
		}
	}
	if len(k.all()) == 60 {
		return api.ErrLong
	}
	k.wet = append(slices.Clip(k.wet), r)
	return api.OK
}

func (k *ledger) note(r api.Record) (api.Record, api.Errno) {
	r.At = at(k.me, retoldHave(k.all())[k.me])
	if roll.CheckRecord(r) != api.OK {
		return api.Record{}, api.ErrRecord
	}
	if e := k.write(r); e != api.OK {
		return api.Record{}, e
	}
	return r, api.OK
}

func (k *ledger) ask(to int) api.Letter {
	k.seal()
	return api.Letter{From: k.me, To: to, Asks: true, Have: retoldHave(k.dry)}
}

// receive changes nothing if there is an error.
func (k *ledger) receive(x api.Letter) ([]api.Letter, api.Errno) {
	n := *k
	for _, r := range x.Records {
		if r.At.No > retoldHave(n.all())[r.At.Manor] {
			continue
		}
		if e := n.write(r); e != api.OK {
			return nil, e
		}
	}
	fresh := len(n.all()) > len(k.all())
	n.seal()
	for manor, have := range x.Have {
		n.known[x.From][manor] = max(n.known[x.From][manor], have)
	}
	*k = n
	if !x.Asks && !fresh {
		return nil, api.OK
	}
	if !x.Asks {
		return []api.Letter{k.ask(x.From)}, api.OK
	}
	y := api.Letter{From: k.me, To: x.From, Have: retoldHave(k.dry)}
	for _, r := range retoldSorted(k.dry) {
		if r.At.No >= x.Have[r.At.Manor] && len(y.Records) < 6 {
			y.Records = append(y.Records, r)
		}
	}
	return []api.Letter{y}, api.OK
}

// kept are the records of wet lines of which no byte was torn or smudged, nor one ahead of them.
func (k ledger) kept(x tear) []api.Record {
	_, sum := retoldText(1, k.dry)
	whole := x.stay
	if x.smudged >= 0 {
		whole = x.smudged
	}
	for i := range k.wet {
		if text, _ := retoldText(sum, k.wet[:i+1]); len(text) > whole {
			return k.wet[:i]
		}
	}
	return k.wet
}

func (k *ledger) restart(picks []int) {
	ink := k.office().Rolls.Main.Wet
	kept := k.kept(retoldTear(picks, 0, len(ink)))
	fire := 0
	if len(picks) > 0 {
		fire = retoldModulo(picks[6%len(picks)], 3)
	}
	if fire == 1 {
		kept = nil
	}
	*k = ledger{me: k.me, dry: slices.Concat(k.dry, kept)}
}
