package court_test

import (
	"slices"
	"strings"
	"testing"

	"pinfold/court"
)

// P10.2: random scripts are answered, line by line, as the chapter tells it; and so is all that a court gives out.
func TestRandomScripts(t *testing.T) {
	right, refused := map[string]int{}, map[string]int{}
	for seed := range uint64(240) {
		x := newRandom(seed)
		all := themes()
		k := randomScript(x, all[seed%uint64(len(all))], 60+x.IntN(100))
		d := court.New()
		for i, line := range k.l {
			got := d.Do(command(t, line))
			if !slices.Equal(got, k.told[i]) {
				t.Fatalf("script %d, line %d: %s: %q; want %q", seed, i, line, got, k.told[i])
			}
			word, _, _ := strings.Cut(line, " ")
			if strings.HasPrefix(got[0], "error") {
				refused[word]++
			} else {
				right[word]++
			}
		}
		if stateOf(d) != k.r.state() {
			t.Fatalf("script %d: %s; want %s", seed, stateOf(d), k.r.state())
		}
	}
	for _, p := range phrases {
		if right[p.word] < 12 {
			t.Errorf("%s was answered %d times, and refused %d times", p.word, right[p.word], refused[p.word])
		}
	}
}
