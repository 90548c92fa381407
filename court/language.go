package court

import (
	"slices"
	"strconv"
	"strings"

	"pinfold/api"
)

// form is how a kind of commands is written: its word, and what its numbers are.
type form struct {
	word    string
	kind    int
	numbers string
}

// count is how many numbers there are.
func (f form) count() int { return len(strings.Fields(f.numbers)) }

// ofManor reports whether the first number is a manor that the command is for.
func (f form) ofManor() bool { return strings.HasPrefix(f.numbers, "MANOR") }

// forms yields those of all commands.
func forms(yield func(f form) bool) {
	for _, some := range []func() []form{settingForms, recordForms, wayForms, queryForms} {
		for _, f := range some() {
			if !yield(f) {
				return
			}
		}
	}
}

func settingForms() []form {
	return []form{
		{"wear", api.CmdWear, "SET SET SET SET SET"},
		{"false", api.CmdFalse, "N"},
		{"mark", api.CmdMark, "OWNER SIGN SIGN SIGN SIGN SIGN SIGN"},
		{"unmark", api.CmdUnmark, "OWNER"},
		{"give", api.CmdGive, "OWNER"},
		{"pasture", api.CmdPasture, "ID LO HI"},
		{"byelaw", api.CmdByelaw, "SOURCE PASTURE FROM PARTS PARTS PARTS PARTS PARTS PARTS PARTS PARTS PARTS"},
		{"pen", api.CmdPen, "ROOM"},
		{"kind", api.CmdKind, "SORT ROOM EATS APART"},
		{"sort", api.CmdSort, "SORT"},
		{"tariff", api.CmdTariff, "FROM FEED HAYWARD DRIVER"},
		{"rate", api.CmdRate, "FROM SORT HEAD DAILY"},
		{"surety", api.CmdSurety, "ID LO HI"},
		{"plaint", api.CmdPlaint, "ID OWNER LO HI DAY KNOWN BEAST SURETY"},
		{"names", api.CmdNames, "ID BEAST"},
		{"backs", api.CmdBacks, "ID SURETY"},
		{"counted", api.CmdCounted, "BEAST"},
		{"clear", api.CmdClear, ""},
	}
}

func recordForms() []form {
	return []form{
		{"born", api.CmdBorn, "MANOR DAY KNOWN BEAST SORT OWNER DAM"},
		{"stray", api.CmdStray, "MANOR DAY KNOWN BEAST SORT"},
		{"sold", api.CmdSold, "MANOR DAY KNOWN BEAST OWNER"},
		{"seen", api.CmdSeen, "MANOR DAY KNOWN BEAST SET SET SET SET SET SET"},
		{"found", api.CmdFound, "MANOR DAY KNOWN BEAST OWNER"},
		{"died", api.CmdDied, "MANOR DAY KNOWN BEAST"},
		{"hold", api.CmdHold, "MANOR DAY KNOWN HOLDING OWNER"},
		{"right", api.CmdRight, "MANOR DAY KNOWN HOLDING PASTURE PARTS"},
		{"owner", api.CmdOwner, "MANOR DAY KNOWN HOLDING OWNER"},
		{"split", api.CmdSplit, "MANOR DAY KNOWN HOLDING TO PASTURE PARTS"},
		{"joined", api.CmdJoined, "MANOR DAY KNOWN HOLDING TO"},
		{"let", api.CmdLet, "MANOR DAY KNOWN HOLDING TO PASTURE PARTS UNTIL"},
		{"open", api.CmdOpen, "MANOR DAY KNOWN PASTURE UNTIL"},
		{"close", api.CmdClose, "MANOR DAY KNOWN PASTURE UNTIL"},
		{"held", api.CmdHeld, "MANOR DAY KNOWN BEAST SORT EATS WORTH DRIVER"},
		{"claimed", api.CmdClaimed, "MANOR DAY KNOWN STAY OWNER"},
		{"freed", api.CmdFreed, "MANOR DAY KNOWN STAY"},
		{"judged", api.CmdJudged, "MANOR DAY KNOWN STAY OWNER"},
		{"finding", api.CmdFinding, "MANOR DAY KNOWN PLAINT AMOUNT PAYS"},
		{"withdraw", api.CmdWithdraw, "MANOR KNOWN NO"},
	}
}

func wayForms() []form {
	return []form{
		{"ask", api.CmdAsk, "MANOR TO"},
		{"deliver", api.CmdDeliver, "N"},
		{"lose", api.CmdLose, "N"},
		{"double", api.CmdDouble, "N"},
		{"restart", api.CmdRestart, "MANOR N N N N"},
		{"impound", api.CmdImpound, "MANOR BEAST"},
		{"release", api.CmdRelease, "MANOR BEAST"},
		{"send", api.CmdSend, "MANOR BEAST TO"},
		{"call", api.CmdCall, "MANOR NO"},
		{"dry", api.CmdDry, "MANOR"},
		{"wreck", api.CmdWreck, "MANOR KEEP"},
		{"out", api.CmdOut, "MANOR TO"},
		{"hear", api.CmdHear, "N"},
		{"drop", api.CmdDrop, "N"},
	}
}

func queryForms() []form {
	return []form{
		{"reads", api.CmdReads, "SET SET SET SET SET SET"},
		{"look", api.CmdLook, "SET SET SET SET SET SET"},
		{"next", api.CmdNext, ""},
		{"beast", api.CmdBeast, "MANOR BEAST KNOWN"},
		{"bearers", api.CmdBearers, "MANOR BEAST KNOWN"},
		{"wrong", api.CmdWrong, "MANOR KNOWN"},
		{"alive", api.CmdAlive, "MANOR DAY KNOWN"},
		{"moved", api.CmdMoved, "MANOR KNOWN OF NO"},
		{"use", api.CmdUse, "MANOR HOLDING PASTURE DAY KNOWN"},
		{"total", api.CmdTotal, "MANOR PASTURE DAY KNOWN"},
		{"most", api.CmdMost, "MANOR OWNER PASTURE SORT DAY KNOWN"},
		{"count", api.CmdCount, "MANOR OWNER SORT DAY KNOWN"},
		{"prove", api.CmdProve, "MANOR OWNER SORT DAY KNOWN"},
		{"over", api.CmdOver, "MANOR OWNER PASTURE DAY KNOWN"},
		{"whose", api.CmdWhose, "MANOR BEAST OWNER DAY KNOWN"},
		{"place", api.CmdPlace, ""},
		{"refuse", api.CmdRefuse, ""},
		{"fewest", api.CmdFewest, ""},
		{"lot", api.CmdLot, "MANOR STAY KNOWN"},
		{"charge", api.CmdCharge, "MANOR STAY KNOWN"},
		{"due", api.CmdDue, "MANOR STAY KNOWN"},
		{"posts", api.CmdPosts, "MANOR DAY DAY"},
		{"balance", api.CmdBalance, "MANOR PARTY DAY DAY"},
		{"inside", api.CmdInside, "MANOR KNOWN"},
		{"allowed", api.CmdAllowed, "MANOR KNOWN"},
		{"refused", api.CmdRefused, "MANOR KNOWN"},
		{"short", api.CmdShort, "MANOR KNOWN"},
		{"owed", api.CmdOwed, "MANOR ID SURETY KNOWN"},
		{"levies", api.CmdLevies, "MANOR KNOWN"},
		{"where", api.CmdWhere, "BEAST"},
		{"riding", api.CmdRiding, "BEAST"},
		{"here", api.CmdHere, "MANOR"},
		{"records", api.CmdRecords, ""},
	}
}

// findForm returns the form of which something is so, and whether there is one.
func findForm(is func(f form) bool) (form, bool) {
	for f := range forms {
		if is(f) {
			return f, true
		}
	}
	return form{}, false
}

// formOf returns the form of a command, and whether this is right.
func formOf(c api.Command) (form, bool) {
	f, ok := findForm(func(f form) bool { return f.kind == c.Kind })
	wrong := slices.ContainsFunc(c.Args, func(n int) bool { return !validNumber(n) })
	return f, ok && len(c.Args) == f.count() && !wrong
}

func validNumber(n int) bool { return within(n, -api.MaxNumber, api.MaxNumber) }

// wordsOf are the words of a line, none if it says nothing.
func wordsOf(line string) []string {
	if strings.HasPrefix(line, "#") {
		return nil
	}
	return strings.FieldsFunc(line, func(c rune) bool { return c == ' ' })
}

// numberOf reads a number, and reports whether the word is just how it is written.
func numberOf(word string) (int, bool) {
	n, err := strconv.Atoi(word)
	return n, err == nil && strconv.Itoa(n) == word
}

// Parse reads a line.
func Parse(line string) (api.Command, int, api.Errno) {
	if len(line) > api.MaxLine {
		return api.Command{}, 0, api.ErrLong
	}
	words := wordsOf(line)
	f, ok := findForm(func(f form) bool { return len(words) > 0 && f.word == words[0] })
	if !ok {
		return api.Command{}, 0, api.ErrWords
	}
	c := api.Command{Kind: f.kind}
	for i, word := range words[1:] {
		n, ok := numberOf(word)
		if i == f.count() || !ok || !validNumber(n) {
			return api.Command{}, 1 + i, api.ErrWords
		}
		c.Args = append(c.Args, n)
	}
	if len(c.Args) < f.count() {
		return api.Command{}, len(words), api.ErrWords
	}
	return c, 0, api.OK
}

// Print returns the line of a command.
func Print(c api.Command) (string, api.Errno) {
	f, ok := formOf(c)
	if !ok {
		return "", api.ErrWords
	}
	return worded(f.word, c.Args...), api.OK
}
