package view

import (
	"fmt"
	"slices"
	"sync"
	"testing"

	"roster/api"
	"roster/dit"
)

// roomyTexts are texts with spare room that has something in it; the others the same of theirs.
func roomyTexts(texts []string) []string {
	return append(slices.Clone(texts), "spare", "room")[:len(texts)]
}

func roomyKeys(keys []api.SortKey) []api.SortKey {
	return append(slices.Clone(keys), api.SortKey{Desc: "spare"}, api.SortKey{Desc: "room"})[:len(keys)]
}

func roomySearch(q api.Search) api.Search {
	f := append(slices.Clone(q.Filter), api.FilterNode{Desc: "spare"}, api.FilterNode{Desc: "room"})
	for i := range f {
		f[i].Parts.Any = roomyTexts(f[i].Parts.Any)
	}
	q.Filter, q.Attributes = f[:len(q.Filter)], roomyTexts(q.Attributes)
	return q
}

func roomyEntries(entries []api.Entry) []api.Entry {
	out := append(slices.Clone(entries), api.Entry{Name: "spare"}, api.Entry{Name: "room"})
	for i := range out {
		out[i].Key = roomyTexts(out[i].Key)
		out[i].Attrs = append(slices.Clone(out[i].Attrs), api.Attr{Desc: "spare"}, api.Attr{Desc: "room"})[:len(out[i].Attrs)]
		for j := range out[i].Attrs {
			out[i].Attrs[j].Values = roomyTexts(out[i].Attrs[j].Values)
		}
	}
	return out[:len(entries)]
}

// allOf is a list with its spare room.
func allOf[E any](list []E) []E { return list[:cap(list)] }

// The whole of what is handed in, spare room too, as texts.

func wholeSearch(q api.Search) string {
	out := fmt.Sprintf("%+v %q", q, allOf(q.Attributes))
	for _, n := range allOf(q.Filter) {
		out += fmt.Sprintf("%+v %q", n, allOf(n.Parts.Any))
	}
	return out
}

func wholeKeys(keys []api.SortKey) string { return fmt.Sprintf("%+v", allOf(keys)) }

func wholeEntries(entries []api.Entry) string {
	out := ""
	for _, e := range allOf(entries) {
		out += fmt.Sprintf("%d %q %q", e.Line, e.Name, allOf(e.Key))
		for _, a := range allOf(e.Attrs) {
			out += fmt.Sprintf("%q %q %q", a.Desc, a.Canon, allOf(a.Values))
		}
	}
	return out
}

// What writes over all that a list has, spare room too.

func spoilTexts(texts []string) {
	for i := range allOf(texts) {
		allOf(texts)[i] = "spoilt"
	}
}

func spoilNumbers(numbers []int) {
	for i := range allOf(numbers) {
		allOf(numbers)[i] = -7
	}
}

func spoilKeys(keys []api.SortKey) {
	for i := range allOf(keys) {
		allOf(keys)[i] = api.SortKey{Desc: "description", Rule: "2.5.13.6", Reverse: true}
	}
}

func spoilAttrs(attrs []api.Attr) {
	for i, a := range allOf(attrs) {
		spoilTexts(a.Values)
		allOf(attrs)[i] = api.Attr{Desc: "spoilt", Canon: "cn", Values: []string{"spoilt"}}
	}
}

func spoilFound(found []api.Found) {
	for i, f := range allOf(found) {
		spoilAttrs(f.Attributes)
		allOf(found)[i] = api.Found{Name: "spoilt"}
	}
}

func spoilSearch(q api.Search) {
	for i, n := range allOf(q.Filter) {
		spoilTexts(n.Parts.Any)
		allOf(q.Filter)[i] = api.FilterNode{Depth: 1, Op: api.Or}
	}
	spoilTexts(q.Attributes)
}

func spoilEntries(entries []api.Entry) {
	for i, e := range allOf(entries) {
		spoilTexts(e.Key)
		spoilAttrs(e.Attrs)
		allOf(entries)[i] = api.Entry{Name: "spoilt"}
	}
}

// P22.11: nothing that is handed in is changed, spare room too; asked again, a view answers the same, and so does another one of the same tree; the tree stays as it is.
func TestNothingIsChanged(t *testing.T) {
	m := newMaker(231)
	for range 30 {
		entries := roomyEntries(m.entries(m.Intn(15)))
		before := wholeEntries(entries)
		tree := treeOf(t, entries)
		told := toldTree(tree)
		v := New(tree)
		for range 15 {
			q, keys := roomySearch(m.search(tree)), roomyKeys(m.keys(4))
			size, cookie := m.size(), m.cookie(tree)
			asked, by := wholeSearch(q), wholeKeys(keys)
			first := answers(v, q, keys, size, cookie)
			Check(keys)
			Order(keys, entries)
			Compare(keys, entries[0], entries[len(entries)-1])
			EncodeKeys(keys)
			if wholeSearch(q) != asked || wholeKeys(keys) != by || wholeEntries(entries) != before {
				t.Fatalf("what was handed in has changed: %s, %s, %s", asked, by, before)
			}
			if again := answers(v, q, keys, size, cookie); again != first {
				t.Fatalf("it told %s, then %s", first, again)
			}
			if other := answers(New(tree), q, keys, size, cookie); other != first {
				t.Fatalf("another view of the tree tells %s, not %s", other, first)
			}
		}
		if toldTree(tree) != told {
			t.Fatalf("the tree has changed: %s", told)
		}
	}
}

// P22.11: what the caller writes into what was handed in, behind the call, is seen in no answer: not in one that was given, not in pages that are still to be gone through.
func TestNothingIsKept(t *testing.T) {
	m := newMaker(232)
	for range 40 {
		tree := treeOf(t, m.entries(m.Intn(15)))
		v := New(tree)
		for range 15 {
			plain, plainKeys, size := m.search(tree), m.keys(3), 1+m.Intn(4)
			w := slowSorted(v.store, plain, plainKeys)
			q, keys := roomySearch(plain), roomyKeys(plainKeys)
			unused, used := v.Pages(q, keys, size), v.Pages(q, keys, size)
			for range used {
				break
			}
			found, _, _ := v.Sorted(q, keys)
			page, _, _, _ := v.Page(q, keys, size, "")
			spoilSearch(q)
			spoilKeys(keys)
			if toldFound(found) != toldFound(w.found) || toldFound(page) != toldFound(w.found[:min(size, len(w.found))]) {
				t.Fatalf("what was answered has changed: %s, %s", toldFound(found), toldFound(page))
			}
			for range 2 {
				for _, pages := range [][][]api.Found{slices.Collect(unused), slices.Collect(used)} {
					if toldPages(pages) != toldPages(w.pages(size)) {
						t.Fatalf("the pages are %s, want %s", toldPages(pages), toldPages(w.pages(size)))
					}
				}
			}
		}
	}
}

// P22.11: what is written into the search and the keys while the pages are gone through is not seen.
func TestWrittenWhilePaged(t *testing.T) {
	v := fiveView(t)
	q, keys := roomySearch(whole()), roomyKeys(by("sn"))
	q.Attributes = roomyTexts([]string{"uidNumber"})
	want := toldPages(slices.Collect(v.Pages(q, keys, 2)))
	got := ""
	for page := range v.Pages(q, keys, 2) {
		got += toldFound(page) + "|"
		spoilFound(page)
		spoilSearch(q)
		spoilKeys(keys)
	}
	if got != want {
		t.Errorf("the pages are %s, want %s", got, want)
	}
}

// P22.4, P22.11: what the caller writes into the entries of which the tree was built, or into what the tree hands out, is not seen.
func TestEntriesAreNotKept(t *testing.T) {
	m := newMaker(233)
	for range 20 {
		entries := roomyEntries(m.entries(m.Intn(15)))
		tree := treeOf(t, entries)
		v := New(tree)
		q, keys := m.search(tree), m.soundKeys(3)
		before := answers(v, q, keys, 2, "")
		spoilEntries(entries)
		for n := range tree.Len() {
			e := tree.Entry(n)
			spoilTexts(e.Key)
			spoilAttrs(e.Attrs)
		}
		if after := answers(v, q, keys, 2, ""); after != before {
			t.Fatalf("it told %s, then %s", before, after)
		}
	}
}

// P22.11: answers are new memory: what is written into one, spare room too, is seen in no other, and not in the view.
func TestAnswersShareNothing(t *testing.T) {
	m := newMaker(234)
	for range 30 {
		tree := treeOf(t, m.entries(m.Intn(15)))
		told := toldTree(tree)
		v := New(tree)
		for range 10 {
			q, keys, size := m.search(tree), m.soundKeys(3), 1+m.Intn(4)
			w := slowSorted(v.store, q, keys)
			seq := v.Pages(q, keys, size)
			var lists [][]api.Found
			for range 2 {
				one, _, _ := v.Sorted(q, keys)
				page, _, _, _ := v.Page(q, keys, 1000, "")
				lists = append(append(lists, one, page), slices.Concat(slices.Collect(seq)...))
			}
			pages := append(slices.Collect(seq), slices.Collect(seq)...)
			for i := range lists {
				if toldFound(lists[i]) != toldFound(w.found) {
					t.Fatalf("by another answer's change it became %s, not %s", toldFound(lists[i]), toldFound(w.found))
				}
				spoilFound(lists[i])
			}
			want := append(w.pages(size), w.pages(size)...)
			for i := range pages {
				if toldFound(pages[i]) != toldFound(want[i]) {
					t.Fatalf("by another page's change it became %s, not %s", toldFound(pages[i]), toldFound(want[i]))
				}
				spoilFound(pages[i])
			}
			holdAll(t, v, q, keys, size, "")
		}
		if toldTree(tree) != told {
			t.Fatalf("the tree has changed: %s", told)
		}
	}
}

// P0.1: no two lists of one answer share memory, spare room too: what is written into one entry's lists is not seen in the next one's.
func TestListsWithinAnAnswer(t *testing.T) {
	m := newMaker(235)
	tree := treeOf(t, m.entries(20))
	v := New(tree)
	q := api.Search{Base: "o=x", Scope: api.WholeSubtree, Filter: every(), Attributes: []string{"*", "+"}}
	sorted, _, _ := v.Sorted(q, by("cn"))
	page, _, _, _ := v.Page(q, by("cn"), 15, "")
	first := slices.Collect(v.Pages(q, by("cn"), 30))[0]
	for _, found := range [][]api.Found{sorted, page, first} {
		for i := range found {
			for j := range found[i].Attributes {
				want := toldFound(found[i+1:]) + toldAttrs(found[i].Attributes[j+1:])
				spoilTexts(found[i].Attributes[j].Values)
				if got := toldFound(found[i+1:]) + toldAttrs(found[i].Attributes[j+1:]); got != want {
					t.Fatalf("%s became %s", want, got)
				}
			}
			want := toldFound(found[i+1:])
			spoilAttrs(found[i].Attributes)
			if got := toldFound(found[i+1:]); got != want {
				t.Fatalf("%s became %s", want, got)
			}
		}
	}
}

// P22.11: Order's and DecodeKeys' lists are new memory too.
func TestListsAreNew(t *testing.T) {
	f := five(t)
	for _, keys := range [][]api.SortKey{nil, by("sn"), by("-uidNumber", "sn")} {
		one, _, _ := Order(keys, f)
		other, _, _ := Order(keys, f)
		want := slices.Clone(one)
		spoilNumbers(one)
		if !slices.Equal(other, want) {
			t.Errorf("by another answer's change it became %d, not %d", other, want)
		}
		holdOrder(t, keys, f, want...)
		value, _ := EncodeKeys(keys)
		read, _ := DecodeKeys(value)
		again, _ := DecodeKeys(value)
		spoilKeys(read)
		if !slices.Equal(again, keys) {
			t.Errorf("by another answer's change it became %+v, not %+v", again, keys)
		}
		holdDecodeKeys(t, value, keys, api.OK)
	}
	entries := roomyEntries(f)
	order, _, _ := Order(by("sn"), entries)
	spoilEntries(entries)
	if !slices.Equal(order, []int{2, 4, 1, 0, 3}) {
		t.Errorf("by a change of the entries it became %d", order)
	}
}

// P0.1: nil and empty lists are the same.
func TestNilAndEmpty(t *testing.T) {
	v := fiveView(t)
	for _, size := range []int{0, 1, 3, 9} {
		for _, cookie := range []string{"", "1", "4"} {
			q := whole()
			want := answers(v, q, nil, size, cookie)
			q.Attributes = []string{}
			if got := answers(v, q, []api.SortKey{}, size, cookie); got != want {
				t.Errorf("nil: %s, empty: %s", want, got)
			}
			q.Filter, q.Attributes = nil, nil
			want = answers(v, q, by("sn"), size, cookie)
			q.Filter, q.Attributes = api.Filter{}, []string{}
			if got := answers(v, q, by("sn"), size, cookie); got != want {
				t.Errorf("nil: %s, empty: %s", want, got)
			}
		}
	}
	empty := api.Entry{Key: []string{}, Attrs: []api.Attr{{Canon: "sn", Values: []string{}}}}
	holdCompare(t, by("sn"), api.Entry{}, empty, 0)
	holdOrder(t, by("sn"), []api.Entry{{}, empty, {Attrs: []api.Attr{{Canon: "sn"}}}, valued("sn", "a")}, 3, 0, 1, 2)
}

// anyNumber is one of any size, below 0 too.
func (m *maker) anyNumber() int {
	return int(m.Uint64()>>m.Intn(64)) * (1 - 2*m.Intn(2))
}

// anyKeys are keys of any texts.
func (m *maker) anyKeys() []api.SortKey {
	keys := m.keys(4)
	for i := range keys {
		switch m.Intn(6) {
		case 0:
			keys[i].Desc = m.someBytes(4)
		case 1:
			keys[i].Rule = m.someBytes(4)
		}
	}
	return keys
}

// P22.11: no call panics, at any argument: keys, names, cookies of any bytes, any numbers, lists of any nodes, entries of any texts; what is told is what the chapter says.
func TestAnyArguments(t *testing.T) {
	m := newMaker(236)
	for range 40 {
		tree := treeOf(t, m.entries(m.Intn(10)))
		v := New(tree)
		for range 40 {
			q := m.search(tree)
			if m.Intn(4) == 0 {
				q.Base = m.someBytes(8)
			}
			if m.Intn(4) == 0 {
				q.Scope, q.Deref, q.SizeLimit, q.TimeLimit = api.Scope(m.anyNumber()), m.anyNumber(), m.anyNumber(), m.anyNumber()
			}
			if m.Intn(4) == 0 {
				q.Filter = nil
				for place := range m.Intn(4) {
					q.Filter = append(q.Filter, api.FilterNode{Depth: place + m.Intn(3), Op: api.FilterOp(m.Intn(12) - 1), Desc: m.someBytes(3), Value: m.someBytes(3), Rule: m.someBytes(2)})
				}
			}
			q.Attributes = append(slices.Clone(q.Attributes), m.someBytes(4))
			cookie := m.cookie(tree)
			if m.Intn(3) == 0 {
				cookie = m.someBytes(5)
			}
			size := m.size()
			if m.Intn(3) == 0 {
				size = m.anyNumber()
			}
			holdAll(t, v, q, m.anyKeys(), size, cookie)
		}
		entries := m.entries(6)
		for i := range entries {
			for range m.Intn(3) {
				entries[i].Attrs = append(entries[i].Attrs, api.Attr{Desc: m.someBytes(3), Canon: m.someBytes(3), Values: []string{m.someBytes(3)}}, api.Attr{Canon: pick(m.Rand, m.samples).desc, Values: []string{m.someBytes(3)}})
			}
		}
		for range 10 {
			keys := m.anyKeys()
			want, wantErr, wantNumber := slowOrder(keys, entries)
			got, err, number := Order(keys, entries)
			if !slices.Equal(got, want) || err != wantErr || number != wantNumber {
				t.Fatalf("Order(%+v, %+v) = %d, %d, %d, want %d, %d, %d", keys, entries, got, err, number, want, wantErr, wantNumber)
			}
			holdCheck(t, keys, wantErr, wantNumber)
		}
		holdEncodePage(t, -1-m.Intn(1<<62), m.someBytes(9), "", api.ErrView)
	}
}

// P22.11: no tree, and one that Build didn't make, are as a tree in which no name is an entry's.
func TestNoTree(t *testing.T) {
	for _, tree := range []*dit.Tree{nil, {}} {
		v := New(tree)
		for base, result := range map[string]api.Result{"": {Code: 32}, "o=x": {Code: 32}, "x": {Code: 34}} {
			q := whole()
			q.Base = base
			holdSorted(t, v, q, by("sn"), nil, result, api.OK)
			holdPage(t, v, q, by("sn"), 1, "0", nil, "", result, api.OK)
			holdPages(t, v, q, by("sn"), 1, nil)
		}
	}
}

// P22.11, P0.1: many may ask one view at once, and go through one iterator at once.
func TestAtOnce(t *testing.T) {
	m := newMaker(237)
	tree := treeOf(t, m.entries(20))
	v := New(tree)
	type question struct {
		q      api.Search
		keys   []api.SortKey
		size   int
		cookie string
		want   string
	}
	var asked []question
	for range 20 {
		a := question{q: m.search(tree), keys: m.keys(3), size: m.size(), cookie: m.cookie(tree)}
		a.want = answers(v, a.q, a.keys, a.size, a.cookie)
		asked = append(asked, a)
	}
	shared := v.Pages(api.Search{Base: "o=x", Scope: api.WholeSubtree, Filter: every()}, by("cn"), 3)
	pages := toldPages(slices.Collect(shared))
	var all sync.WaitGroup
	for range 6 {
		all.Go(func() {
			for _, a := range asked {
				if got := answers(v, a.q, a.keys, a.size, a.cookie); got != a.want {
					t.Errorf("it told %s, not %s", got, a.want)
				}
				if got := toldPages(slices.Collect(shared)); got != pages {
					t.Errorf("it gave %s, not %s", got, pages)
				}
			}
		})
	}
	all.Wait()
}
