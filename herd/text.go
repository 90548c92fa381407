package herd

import (
	"strconv"
	"strings"

	"pinfold/api"
)

// fieldsOf returns the fields that the text of an event has, in its order; all but these, At, Kind, Day, Known and Of are 0 in a valid event.
func fieldsOf(x *api.Event) []*int {
	switch x.Kind {
	case api.EvBorn:
		return []*int{&x.Beast, &x.Sort, &x.Owner, &x.Dam}
	case api.EvStray:
		return []*int{&x.Beast, &x.Sort}
	case api.EvSold, api.EvFound:
		return []*int{&x.Beast, &x.Owner}
	case api.EvSeen:
		l := []*int{&x.Beast}
		for place := range x.Seen {
			l = append(l, &x.Seen[place])
		}
		return l
	case api.EvDied:
		return []*int{&x.Beast}
	}
	return nil
}

// numbersOf returns the numbers of an event's text.
func numbersOf(x api.Event) []int {
	var l []int
	for _, field := range fieldsOf(&x) {
		l = append(l, *field)
	}
	return l
}

// withNumbers returns an event with the At, Kind, Day, Known and Of of x, and with just these numbers in its text.
func withNumbers(x api.Event, numbers []int) api.Event {
	y := api.Event{At: x.At, Kind: x.Kind, Day: x.Day, Known: x.Known, Of: x.Of}
	for i, field := range fieldsOf(&y) {
		*field = numbers[i]
	}
	return y
}

// Write returns the text of an event.
func Write(x api.Event) (string, api.Errno) {
	if e := CheckEvent(x); e != api.OK {
		return "", e
	}
	return textOf(numbersOf(x)...), api.OK
}

// textOf writes numbers with one space between them.
func textOf(numbers ...int) string {
	var words []string
	for _, n := range numbers {
		words = append(words, strconv.Itoa(n))
	}
	return strings.Join(words, " ")
}

// Read returns the event whose text this is.
func Read(x api.Event, text string) (read api.Event, e api.Errno) {
	defer func() {
		if recover() != nil {
			read, e = api.Event{}, api.ErrEvent
		}
	}()
	y := withNumbers(x, readNumbers(text, len(fieldsOf(&x))))
	if e := CheckEvent(y); e != api.OK {
		return api.Event{}, e
	}
	return y, api.OK
}

// readNumbers returns the numbers of a text that has so many of them; it panics with ErrEvent if the text has another form.
func readNumbers(text string, count int) []int {
	var l []int
	for _, word := range strings.Fields(text) {
		n, err := strconv.Atoi(word)
		if err != nil {
			panic(api.ErrEvent)
		}
		l = append(l, n)
	}
	// Numbers have just one text: any other one has signs, zeros or spaces too many.
	if len(l) != count || textOf(l...) != text {
		panic(api.ErrEvent)
	}
	return l
}
