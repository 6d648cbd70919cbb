package search

import (
	"fmt"
	"slices"
	"sync"
	"testing"

	"roster/api"
)

// roomyTexts are texts with spare room that has something in it.
func roomyTexts(texts []string) []string {
	return append(slices.Clone(texts), "spare", "room")[:len(texts)]
}

// roomy is a search all of whose lists have such room.
func roomy(q api.Search) api.Search {
	f := append(slices.Clone(q.Filter), with(api.Present, "spare", ""), with(api.Present, "room", ""))
	for i := range f {
		f[i].Parts.Any = roomyTexts(f[i].Parts.Any)
	}
	q.Filter, q.Attributes = f[:len(q.Filter)], roomyTexts(q.Attributes)
	return q
}

// whole is all that a search's lists have, spare room too, as one text.
func whole(q api.Search) string {
	out := fmt.Sprintf("%+v %q", q, q.Attributes[:cap(q.Attributes)])
	for _, n := range q.Filter[:cap(q.Filter)] {
		out += fmt.Sprintf("%+v %q", n, n.Parts.Any[:cap(n.Parts.Any)])
	}
	return out
}

func spoilTexts(texts []string) {
	for i := range texts[:cap(texts)] {
		texts[:cap(texts)][i] = "spoilt"
	}
}

func spoilNumbers(numbers []int) {
	for i := range numbers[:cap(numbers)] {
		numbers[:cap(numbers)][i] = -7
	}
}

// spoilAttrs writes over all that a list has, spare room too; spoilSearch and spoilFound the same of theirs.
func spoilAttrs(attrs []api.Attr) {
	for i, a := range attrs[:cap(attrs)] {
		spoilTexts(a.Values)
		attrs[:cap(attrs)][i] = api.Attr{Desc: "spoilt", Canon: "spoilt", Values: []string{"spoilt"}}
	}
}

func spoilSearch(q api.Search) {
	for i, n := range q.Filter[:cap(q.Filter)] {
		spoilTexts(n.Parts.Any)
		q.Filter[:cap(q.Filter)][i] = api.FilterNode{Depth: 1, Op: api.And}
	}
	spoilTexts(q.Attributes)
}

func spoilFound(found []api.Found) {
	for i, f := range found[:cap(found)] {
		spoilAttrs(f.Attributes)
		found[:cap(found)][i] = api.Found{Name: "spoilt"}
	}
}

// P0.1: nothing that is handed in is changed, spare room too; asked again, a store answers the same: it doesn't change when it is asked.
func TestNothingIsChanged(t *testing.T) {
	m := newMaker(171)
	for range 50 {
		paths := m.paths(m.Intn(12))
		entries := m.entries(t, paths)
		s := storeOf(t, entries)
		var asked []api.Search
		var told []string
		for range 20 {
			q := roomy(m.search(paths))
			before := whole(q)
			asked, told = append(asked, q), append(told, answers(s, q))
			if after := whole(q); after != before {
				t.Fatalf("%s became %s", before, after)
			}
		}
		fresh := storeOf(t, entries)
		for i, q := range asked {
			if again := answers(s, q); again != told[i] {
				t.Fatalf("it told %s, then %s", told[i], again)
			}
			if other := answers(fresh, q); other != told[i] {
				t.Fatalf("another store of the same tells %s, not %s", other, told[i])
			}
		}
	}
}

// P16.3, P0.1: what the caller writes into what was handed in makes no difference to what was answered: an iterator gives what was asked for when it was made, ranged over or not.
func TestNothingIsKept(t *testing.T) {
	m := newMaker(172)
	for range 50 {
		paths := m.paths(m.Intn(12))
		entries := m.entries(t, paths)
		s, w := storeOf(t, entries), slowStore(entries)
		for range 20 {
			q := roomy(m.search(paths))
			wantFound, _ := w.search(q)
			want, wantNumbers := toldFound(wantFound), w.meant(q)
			unused, used := s.Matches(q), s.Matches(q)
			for range used {
				break
			}
			found, _ := s.Search(q)
			scanned, _ := s.Scan(q)
			spoilSearch(q)
			if toldFound(found) != want || toldFound(scanned) != want {
				t.Fatalf("%s became %s and %s", want, toldFound(found), toldFound(scanned))
			}
			holdGiven(t, unused, wantNumbers)
			holdGiven(t, used, wantNumbers)
			holdAll(t, s, w, m.search(paths))
		}
	}
}

// P0.1: while an iterator is ranged over, what is written into the search is not seen.
func TestWrittenWhileRanged(t *testing.T) {
	s := chapterStore(t)
	q := roomy(api.Search{Base: "o=x", Scope: api.WholeSubtree, Filter: nodes(sub("name", "", []string{"b"}, ""))})
	var got []int
	for n := range s.Matches(q) {
		got = append(got, n)
		spoilSearch(q)
	}
	if want := []int{3, 4}; !slices.Equal(got, want) {
		t.Errorf("it gave %d, want %d", got, want)
	}
}

// P0.1: what the caller writes into entries handed to the tree's maker, behind New, is seen nowhere.
func TestEntriesAreNotKept(t *testing.T) {
	m := newMaker(173)
	for range 30 {
		paths := m.paths(m.Intn(12))
		entries := m.entries(t, paths)
		s := storeOf(t, entries)
		q := m.search(paths)
		before := answers(s, q)
		for _, e := range entries {
			spoilTexts(e.Key)
			spoilAttrs(e.Attrs)
		}
		if after := answers(s, q); after != before {
			t.Fatalf("it told %s, then %s", before, after)
		}
	}
}

// P0.1: answers are new memory: what is written into one, spare room too, is seen in no other, and not in the store.
func TestAnswersShareNothing(t *testing.T) {
	m := newMaker(174)
	for range 50 {
		paths := m.paths(m.Intn(12))
		entries := m.entries(t, paths)
		s, w := storeOf(t, entries), slowStore(entries)
		for range 10 {
			q := m.search(paths)
			before := answers(s, q)
			lists := [][]api.Found{}
			for range 2 {
				one, _ := s.Search(q)
				other, _ := s.Scan(q)
				lists = append(lists, one, other)
			}
			want := toldFound(lists[0])
			for i := range lists {
				spoilFound(lists[i])
				for _, later := range lists[i+1:] {
					if toldFound(later) != want {
						t.Fatalf("by another answer's change it became %s, not %s", toldFound(later), want)
					}
				}
			}
			if after := answers(s, q); after != before {
				t.Fatalf("it told %s, then %s", before, after)
			}
			holdAll(t, s, w, q)
		}
	}
}

// P0.1: no two lists of one answer share memory: what is written into one entry's lists is not seen in the next one's.
func TestListsWithinAnAnswer(t *testing.T) {
	s := storeOf(t, entriesIn(t, shown))
	q := api.Search{Base: "o=x", Scope: api.WholeSubtree, Filter: every(), Attributes: []string{"*", "+"}}
	for name, way := range ways(s) {
		found, _ := way(q)
		for i := range found {
			for j := range found[i].Attributes {
				want := toldFound(found[i+1:]) + fmt.Sprintf("%q", found[i].Attributes[j+1:])
				a := found[i].Attributes[j]
				_ = append(a.Values, "more")
				spoilTexts(a.Values)
				if got := toldFound(found[i+1:]) + fmt.Sprintf("%q", found[i].Attributes[j+1:]); got != want {
					t.Fatalf("%s: %s became %s", name, want, got)
				}
			}
			want := toldFound(found[i+1:])
			_ = append(found[i].Attributes, api.Attr{Desc: "more"})
			spoilAttrs(found[i].Attributes)
			if got := toldFound(found[i+1:]); got != want {
				t.Fatalf("%s: %s became %s", name, want, got)
			}
		}
	}
}

// P0.1: nil and empty lists are the same.
func TestNilAndEmpty(t *testing.T) {
	m := newMaker(175)
	for range 50 {
		paths := m.paths(m.Intn(12))
		s := storeOf(t, m.entries(t, paths))
		for range 10 {
			q := m.search(paths)
			q.Attributes = nil
			other := q
			other.Attributes, other.Filter = []string{}, slices.Clone(q.Filter)
			for i := range other.Filter {
				if len(other.Filter[i].Parts.Any) == 0 {
					other.Filter[i].Parts.Any = []string{}
				}
			}
			if answers(s, q) != answers(s, other) {
				t.Fatalf("nil and empty lists are told apart in %s", toldSearch(q))
			}
			q.Filter, other.Filter = nil, api.Filter{}
			if answers(s, q) != answers(s, other) {
				t.Fatal("nil and empty filters are told apart")
			}
		}
	}
}

// someBytes is a text of any bytes.
func (m *maker) someBytes(longest int) string {
	b := make([]byte, m.Intn(longest+1))
	m.Read(b)
	return string(b)
}

// anyNumber is one of any size, below 0 too.
func (m *maker) anyNumber() int {
	return int(m.Uint64()>>m.Intn(64)) * (1 - 2*m.Intn(2))
}

// P0.1: no call panics, at any argument: lists of any nodes, names of any bytes, any numbers; and what is told is what the chapter says.
func TestAnySearches(t *testing.T) {
	m := newMaker(176)
	for range 40 {
		paths := m.paths(m.Intn(8))
		entries := m.entries(t, paths)
		s, w := storeOf(t, entries), slowStore(entries)
		for range 100 {
			q := m.search(paths)
			switch m.Intn(4) {
			case 0:
				q.Base = m.someBytes(12)
			case 1:
				q.Base += m.someBytes(3)
			}
			if m.Intn(2) == 0 {
				q.Filter = nil
				for place := range m.Intn(4) {
					n := m.item()
					n.Depth, n.Op = place+m.Intn(3), api.FilterOp(m.Intn(12)-1)
					if m.Intn(3) == 0 {
						n.Desc, n.Value, n.Rule = m.someBytes(4), m.someBytes(4), m.someBytes(4)
					}
					q.Filter = append(q.Filter, n)
				}
			}
			if m.Intn(4) == 0 {
				q.Scope, q.Deref, q.SizeLimit, q.TimeLimit = api.Scope(m.anyNumber()), m.anyNumber(), m.anyNumber(), m.anyNumber()
			}
			q.Attributes = append(q.Attributes, m.someBytes(4))
			holdAll(t, s, w, q)
		}
	}
}

// P16.3, P0.1: many may ask one store at once, and range over one iterator at once.
func TestAtOnce(t *testing.T) {
	m := newMaker(177)
	paths := m.paths(20)
	s := storeOf(t, m.entries(t, paths))
	var asked []api.Search
	var want []string
	for range 30 {
		q := m.search(paths)
		asked, want = append(asked, q), append(want, answers(s, q))
	}
	shared := s.Matches(api.Search{Base: s.Tree().Entry(0).Name, Scope: api.WholeSubtree, Filter: every()})
	var all sync.WaitGroup
	for range 8 {
		all.Go(func() {
			for i, q := range asked {
				if got := answers(s, q); got != want[i] {
					t.Errorf("it told %s, not %s", got, want[i])
				}
				if got := slices.Collect(shared); len(got) != s.Tree().Len() {
					t.Errorf("it gave %d", got)
				}
				if got := answers(New(s.Tree()), q); got != want[i] {
					t.Errorf("another store of the tree told %s, not %s", got, want[i])
				}
			}
		})
	}
	all.Wait()
}
