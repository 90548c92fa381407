package herd_test

import (
	"strings"
	"testing"

	"pinfold/api"
	"pinfold/herd"
)

// P4.1 and P4.9: the text of each kind of events, written and read.
func TestTexts(t *testing.T) {
	for _, c := range []struct {
		x    api.Event
		text string
	}{
		{eventOf(api.EvWithdraw), ""},
		{eventOf(api.EvBorn), "10 2 3 40"},
		{born(9999, 9, 99, 9998, 1), "9999 9 99 9998"},
		{born(1, 1, 1, 0, 1), "1 1 1 0"},
		{eventOf(api.EvStray), "10 2"},
		{eventOf(api.EvSold), "10 3"},
		{eventOf(api.EvFound), "10 3"},
		{seen(20, 6, api.Reading{1, 2, 4, 8, 16, 31}), "20 1 2 4 8 16 31"},
		{eventOf(api.EvDied), "10"},
	} {
		text, e := herd.Write(c.x)
		want(t, "Write", text, e, c.text, api.OK)
		x, e := herd.Read(c.x, c.text)
		want(t, "Read", x, e, c.x, api.OK)
	}
}

// headOf is an event of which just the fields that Read looks at are those of x; the others are what no event may have.
func headOf(x api.Event) api.Event {
	return api.Event{At: x.At, Kind: x.Kind, Day: x.Day, Known: x.Known, Of: x.Of,
		Beast: -7, Dam: 1 << 40, Sort: 77, Owner: -1, Seen: api.Reading{99, -1}}
}

// P4.1: the other fields of what Read is given do not matter; those that it keeps do.
func TestReadKeeps(t *testing.T) {
	for kind := range api.EvDied + 1 {
		x := eventOf(kind)
		text, _ := herd.Write(x)
		got, e := herd.Read(headOf(x), text)
		want(t, "Read", got, e, x, api.OK)
		for _, change := range []func(y *api.Event){
			func(y *api.Event) { y.At.Manor = 6 },
			func(y *api.Event) { y.At.No = -1 },
			func(y *api.Event) { y.Kind = 7 },
			func(y *api.Event) { y.Kind = -1 },
			func(y *api.Event) { y.Day = -1 },
			func(y *api.Event) { y.Day = api.MaxDay + 1 },
			func(y *api.Event) { y.Known = -1 },
			func(y *api.Event) { y.Known = api.MaxDay + 1 },
			func(y *api.Event) { y.Of.Manor++ },
			func(y *api.Event) { y.Of.No = 10000 },
		} {
			y := headOf(x)
			change(&y)
			got, e := herd.Read(y, text)
			want(t, "Read of another head", got, e, api.Event{}, api.ErrEvent)
		}
	}
	day := eventOf(api.EvWithdraw)
	day.Day = 1
	got, e := herd.Read(day, "")
	want(t, "a withdrawal with a day", got, e, api.Event{}, api.ErrEvent)
	for _, text := range []string{"", "1", "10 2 3 40"} {
		got, e := herd.Read(api.Event{Kind: 7}, text)
		want(t, "no kind", got, e, api.Event{}, api.ErrEvent)
	}
}

// wrongTexts are texts of no event of a kind, made from one of an event.
func wrongTexts(text string) []string {
	l := []string{text + " ", " " + text, text + "\n", "\t" + text, text + " 1", "1 " + text, text + ".0", "+" + text, "-" + text, "0" + text,
		text + "x", text + " x", "0x" + text, text + "\x00", text + " 18446744073709551626", text + "\u00a0", text + "0000000000000000000000", "x"}
	if i := strings.Index(text, " "); i > 0 {
		l = append(l, "", text[:i], text[i+1:], text[:i]+" "+text[i:], text[:i]+"\t"+text[i+1:], text[:i]+","+text[i:], text[:i]+"\n"+text[i+1:],
			text[:i]+" +"+text[i+1:], text[:i]+" 0"+text[i+1:], text[:i]+" -"+text[i+1:], text[:i]+" "+text[i+1:]+"\r")
	}
	return l
}

// P4.1: texts of another form, and texts of what is not valid.
func TestReadErrors(t *testing.T) {
	for kind := range api.EvDied + 1 {
		x := eventOf(kind)
		text, _ := herd.Write(x)
		for _, wrong := range wrongTexts(text) {
			got, e := herd.Read(x, wrong)
			want(t, "Read of "+wrong, got, e, api.Event{}, api.ErrEvent)
		}
	}
	for kind, texts := range map[int][]string{
		api.EvWithdraw: {"0 0", "0", " ", "\n"},
		api.EvBorn:     {"1 1 1 1", "1 1 1 10000", "1 1 1 -0", "1 1 1", "1 1 1 0 0", "1 0 1 0", "1 1 0 0"},
		api.EvStray:    {"0 2", "10000 2", "1 0", "1 10"},
		api.EvSold:     {"1 100", "1 0", "1"},
		api.EvSeen:     {"1 1 1 1 1 1 0", "1 1 1 1 1 1 32", "1 1 1 1 1 1", "1 1 1 1 1 1 1 1"},
		api.EvFound:    {"1 -1", "1 00", "1 1 1"},
		api.EvDied:     {"0", "10000", "-0", ""},
	} {
		for _, text := range texts {
			got, e := herd.Read(eventOf(kind), text)
			want(t, "Read of "+text, got, e, api.Event{}, api.ErrEvent)
		}
	}
}

// P4.1: Write of what is not valid.
func TestWriteErrors(t *testing.T) {
	for kind := range api.EvDied + 1 {
		for _, change := range []func(x *api.Event){
			func(x *api.Event) { x.At.No = 10000 },
			func(x *api.Event) { x.Kind += 7 },
			func(x *api.Event) { x.Known = -1 },
			func(x *api.Event) { x.Day = -1 },
			func(x *api.Event) { x.Beast = 10000 },
			func(x *api.Event) { x.Sort = 10 },
			func(x *api.Event) { x.Owner = 100 },
			func(x *api.Event) { x.Seen[5] = 32 },
			func(x *api.Event) { x.Dam = 10000 },
		} {
			x := eventOf(kind)
			change(&x)
			text, e := herd.Write(x)
			want(t, "Write", text, e, "", api.ErrEvent)
		}
	}
}

// P4.9: Read of Write returns the event; Write of what Read returns is the text.
func TestReadOfWrite(t *testing.T) {
	x := newRandom()
	read := 0
	for range 20000 {
		y := eventOf(x.IntN(api.EvDied + 1))
		for name, r := range rangesOf(y.Kind) {
			*numbersIn(&y)[name] = r.Lo + x.IntN(r.Hi-r.Lo+1)
		}
		if y.Kind == api.EvWithdraw {
			y.Of.No = x.IntN(y.At.No)
		}
		text, e := herd.Write(y)
		if y.Kind == api.EvBorn && y.Beast == y.Dam {
			continue
		}
		got, f := herd.Read(headOf(y), text)
		if e != api.OK || f != api.OK || got != y {
			t.Fatal(y, text, got, e, f)
		}
		read += wantTextBack(t, headOf(y), mangled(x.IntN, text))
	}
	if read < 1000 {
		t.Error("few texts were read", read)
	}
}

// mangled changes a byte of a text, puts one in, or leaves one out.
func mangled(random func(n int) int, text string) string {
	const bytes = "0123456789 -+\n"
	i, c := random(len(text)+1), string(bytes[random(len(bytes))])
	end := min(len(text), i+1)
	return []string{text[:i] + c + text[end:], text[:i] + c + text[i:], text[:i] + text[end:]}[random(3)]
}

// wantTextBack returns 1 if a text is one of an event.
func wantTextBack(t *testing.T, head api.Event, text string) int {
	t.Helper()
	y, e := herd.Read(head, text)
	if e != api.OK {
		want(t, "Read of "+text, y, e, api.Event{}, api.ErrEvent)
		return 0
	}
	got, e := herd.Write(y)
	want(t, "Write", got, e, text, api.OK)
	wantErrno(t, "CheckEvent", herd.CheckEvent(y), api.OK)
	return 1
}
