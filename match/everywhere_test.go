package match

import (
	"math/rand"
	"slices"
	"sync"
	"testing"

	"roster/api"
)

// roomy is a pattern whose inner pieces have spare room with something in it.
func roomy() api.Pattern {
	inner := []string{" B ", "C\t", "", "spare", "room"}
	return pattern(" A ", inner[:3], " D ")
}

// P6.4, P6.8, P0.1: the pattern that is handed in is not changed, spare room too, whether it is taken or refused.
func TestPatternsAreNotChanged(t *testing.T) {
	for _, s := range allSyntaxes() {
		p := roomy()
		Parts(s, p)
		Contains(s, " a b c d ", p)
		Fits("a b c d", p)
		p.Any[1] = "\xff"
		Parts(s, p)
		p.Any[1] = "C\t"
		if !samePattern(p, roomy()) || !slices.Equal(p.Any[:5], roomy().Any[:5]) {
			t.Fatalf("by the syntax %d the pattern became %q", s, p)
		}
	}
}

// P6.4, P0.1: what Parts answers is new memory, shared with neither the pattern nor another answer.
func TestPartsAreNewMemory(t *testing.T) {
	for _, s := range []api.Syntax{1, 2, 3, 4, 9} {
		p := roomy()
		want, _ := slowParts(s, p)
		first, _ := Parts(s, p)
		second, _ := Parts(s, p)
		for i := range first.Any[:cap(first.Any)] {
			first.Any[:cap(first.Any)][i] = "spoilt"
		}
		if !samePattern(p, roomy()) || !samePattern(second, want) {
			t.Errorf("by the syntax %d the pattern is %q, the answer %q", s, p, second)
		}
		clear(p.Any[:cap(p.Any)])
		if !samePattern(second, want) {
			t.Errorf("by the syntax %d the answer became %q", s, second)
		}
	}
	if got, _ := Parts(api.SynNumeric, pattern("", nil, "1")); len(got.Any) != 0 {
		t.Errorf("inner pieces %q", got.Any)
	}
}

// P0.1: a pattern that the caller writes into ahead of a second call is read anew.
func TestNothingIsKept(t *testing.T) {
	p := pattern("", []string{"a"}, "")
	for _, piece := range []string{"a", "B", "\xff", "", " ", "b"} {
		p.Any[0] = piece
		for _, s := range allSyntaxes() {
			holdParts(t, s, p)
			holdContains(t, s, "a b", p)
		}
	}
}

// P0.1: no call panics at any number and any text, and the same call answers the same.
func TestCallsAnswerTheSame(t *testing.T) {
	r := rand.New(rand.NewSource(71))
	for range 300 {
		a, b := someValue(r), someValue(r)
		for _, rule := range allRules() {
			for _, s := range allSyntaxes() {
				if ByRule(rule, s, a, b) != ByRule(rule, s, a, b) {
					t.Fatalf("ByRule(%d, %d, %q, %q) answers now so, now so", rule, s, a, b)
				}
			}
		}
	}
}

// P0.1: calls at the same time do not meet.
func TestCallsAreAlone(t *testing.T) {
	p := roomy()
	var group sync.WaitGroup
	for i := range 8 {
		group.Go(func() {
			r := rand.New(rand.NewSource(int64(i)))
			for range 200 {
				a, b := someValue(r), someValue(r)
				s := api.Syntax(r.Intn(15))
				rule := api.Rule(r.Intn(31))
				normal, _ := slowNormal(s, a)
				if got, _ := Normal(s, a); got != normal {
					t.Errorf("Normal(%d, %q) = %q", s, a, got)
				}
				if got, want := Contains(s, a, p), slowContains(s, a, p); got != want {
					t.Errorf("Contains(%d, %q, %q) = %d", s, a, p, got)
				}
				if got, want := ByRule(rule, s, a, b), slowByRule(rule, s, a, b); got != want {
					t.Errorf("ByRule(%d, %d, %q, %q) = %d", rule, s, a, b, got)
				}
			}
		})
	}
	group.Wait()
}
