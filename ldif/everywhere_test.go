package ldif

import (
	"math/rand"
	"slices"
	"sync"
	"testing"

	"roster/api"
)

// roomy is a list of records of which every list has spare room with something in it.
func roomy(r *rand.Rand) []api.Record {
	records := append(someRecords(r), record(1, "spare", "o", "room"), record(2, "more", "o", "room"))
	for i := range records {
		pairs := records[i].Pairs
		records[i].Pairs = append(pairs, api.Pair{Desc: "spare", Value: "pair"}, api.Pair{Desc: "more", Value: "pairs"})[:len(pairs)]
	}
	return records[:len(records)-2]
}

// deep is a copy of all of it, spare room too.
func deep(records []api.Record) []api.Record {
	out := slices.Clone(records[:cap(records)])
	for i := range out {
		out[i].Pairs = slices.Clone(out[i].Pairs[:cap(out[i].Pairs)])
	}
	return out
}

// P7.4, P0.1: the records that are handed in are not changed, spare room too, whether they are taken or refused.
func TestRecordsAreNotChanged(t *testing.T) {
	r := rand.New(rand.NewSource(77))
	for range 2000 {
		records := roomy(r)
		before := deep(records)
		Render(records)
		if !sameRecords(deep(records), before) {
			t.Fatalf("%#v became %#v", before, deep(records))
		}
	}
}

// spoil writes over all that a list of records has, spare room too.
func spoil(records []api.Record) {
	for i := range records[:cap(records)] {
		one := &records[:cap(records)][i]
		for j := range one.Pairs[:cap(one.Pairs)] {
			one.Pairs[:cap(one.Pairs)][j] = api.Pair{Desc: "spoilt", Value: "spoilt"}
		}
		*one = api.Record{Line: -1, Name: "spoilt"}
	}
}

// P7.2, P7.3, P0.1: what is answered is new memory: no list of it is seen to change with another.
func TestAnswersAreNewMemory(t *testing.T) {
	want := threeRecords()
	first, _, _ := Load(three)
	second, _, _ := Load(three)
	spoil(first)
	if !sameRecords(second, want) {
		t.Errorf("by another answer's change it became %#v", second)
	}
	for i := range second {
		spoil(second[i : i+1 : i+1])
		if !sameRecords(second[i+1:], want[i+1:]) {
			t.Errorf("by the change of the one at %d the others became %#v", i, second[i+1:])
		}
	}
	records := Records(three)
	for range 2 {
		place := 0
		for r := range records {
			if !sameRecord(r, want[place]) {
				t.Errorf("by the change of one ahead of it the one at %d became %#v", place, r)
			}
			spoil([]api.Record{r})
			place++
		}
	}
}

// P7.1, P0.1: so is the list of lines.
func TestLinesAreNewMemory(t *testing.T) {
	const s = "a\n b\n\n#c\n"
	first, _, _ := Lines(s)
	second, _, _ := Lines(s)
	for i := range first[:cap(first)] {
		first[:cap(first)][i] = api.Line{Number: -1, Text: "spoilt"}
	}
	if want, _ := slowLines(s); !slices.Equal(second, want) {
		t.Errorf("the lines became %#v", second)
	}
}

// P7.4, P0.1: records that the caller writes into ahead of a second call are read anew.
func TestNothingIsKept(t *testing.T) {
	records := []api.Record{record(0, "a", "b", "c")}
	first, _, _ := Render(records)
	for _, desc := range []string{"o", "dn", "control", "", "o"} {
		records[0].Pairs[0].Desc = desc
		holdRender(t, records)
	}
	if first != "version: 1\n\ndn: a\nb: c\n" {
		t.Errorf("the text became %q", first)
	}
}

// P0.1: no call panics at any text, and beside an error every other result is its zero value.
func TestCallsAtAnyText(t *testing.T) {
	r := rand.New(rand.NewSource(78))
	for range 20000 {
		raw := make([]byte, r.Intn(40))
		for i := range raw {
			raw[i] = pick(r, "\n", "\r", " ", "#", ":", "a", "1", string([]byte{byte(r.Intn(256))}))[0]
		}
		s := string(raw)
		if r.Intn(2) == 0 {
			s = head + s
		}
		holdLines(t, s)
		holdRead(t, s)
		holdRefold(t, s, r.Intn(8)-1)
	}
}

// P0.1: calls at the same time, rangings over one iterator too, do not meet.
func TestCallsAreAlone(t *testing.T) {
	shared := Records(three)
	records := threeRecords()
	rendered, _ := slowRender(records)
	var group sync.WaitGroup
	for i := range 8 {
		group.Go(func() {
			r := rand.New(rand.NewSource(int64(i)))
			for range 200 {
				s := someSnapshot(r)
				want, refused := slowRead(s)
				if got := slices.Collect(Records(s)); !sameRecords(got, want) {
					t.Errorf("Records(%#v) gives %#v", s, got)
				}
				if _, err, at := Load(s); (fault{err, at}) != refused {
					t.Errorf("Load(%q): %d, %d", s, err, at)
				}
				if got := slices.Collect(shared); !sameRecords(got, threeRecords()) {
					t.Errorf("the shared iterator gives %#v", got)
				}
				if got, _, _ := Render(records); got != rendered {
					t.Errorf("Render gives %q", got)
				}
			}
		})
	}
	group.Wait()
}
