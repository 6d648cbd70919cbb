package index

import (
	"fmt"
	"math/rand"
	"slices"
	"strings"
	"sync"
	"testing"

	"roster/api"
)

// told is all that an index answers to these questions, as one text.
func told(x *Index, q asked) string {
	var out strings.Builder
	fmt.Fprint(&out, x.Size(), x.Descs())
	for _, desc := range q.descs {
		fmt.Fprintf(&out, "\n%q %d %v", desc, x.Present(desc), allTerms(x, desc))
		for _, normal := range q.normals {
			fmt.Fprint(&out, x.Equal(desc, normal))
		}
		for i, gram := range q.grams {
			fmt.Fprint(&out, x.Gram(desc, gram), x.Holding(desc, q.grams[i:min(i+2, len(q.grams))]))
		}
		fmt.Fprint(&out, x.Holding(desc, nil))
	}
	return out.String()
}

// roomyTexts are texts with spare room that has something in it.
func roomyTexts(texts []string) []string {
	return append(slices.Clone(texts), "spare", "room")[:len(texts)]
}

// roomy are entries all of whose lists have such room.
func roomy(entries []api.Entry) []api.Entry {
	out := append(slices.Clone(entries), with(at("cn", "spare")), with(at("cn", "room")))
	for i, e := range out {
		out[i].Key = roomyTexts(e.Key)
		out[i].Attrs = append(slices.Clone(e.Attrs), at("cn", "spare"), at("sn", "room"))[:len(e.Attrs)]
		for j, a := range e.Attrs {
			out[i].Attrs[j].Values = roomyTexts(a.Values)
		}
	}
	return out[:len(entries)]
}

// whole is all that entries have, spare room too, as one text.
func whole(entries []api.Entry) string {
	var out strings.Builder
	for _, e := range entries[:cap(entries)] {
		fmt.Fprintf(&out, "\n%d %q %q", e.Line, e.Name, e.Key[:cap(e.Key)])
		for _, a := range e.Attrs[:cap(e.Attrs)] {
			fmt.Fprintf(&out, " %q %q %q", a.Desc, a.Canon, a.Values[:cap(a.Values)])
		}
	}
	return out.String()
}

func spoilTexts(texts []string) {
	for i := range texts[:cap(texts)] {
		texts[:cap(texts)][i] = "spoilt"
	}
}

func spoilNumbers(numbers []int) {
	for i := range numbers[:cap(numbers)] {
		numbers[:cap(numbers)][i] = -7
	}
}

// spoil writes over all that entries have, spare room too.
func spoil(entries []api.Entry) {
	for i, e := range entries[:cap(entries)] {
		for j, a := range e.Attrs[:cap(e.Attrs)] {
			spoilTexts(a.Values)
			e.Attrs[:cap(e.Attrs)][j] = at("cn", "spoilt")
		}
		entries[:cap(entries)][i] = with(at("mail", "spoilt"))
	}
}

// P11.2, P0.1: nothing that is handed in is changed, spare room too.
func TestNothingIsChanged(t *testing.T) {
	r := rand.New(rand.NewSource(115))
	for range 100 {
		entries := roomy(someEntries(r, r.Intn(8)))
		before := whole(entries)
		x, q := Build(entries), askedOf(entries).some(r, 10)
		told(x, q)
		if after := whole(entries); after != before {
			t.Fatalf("the entries %s became %s", before, after)
		}
		grams := roomyTexts([]string{"nna", "ann", "nna", "an", ""}[:r.Intn(6)])
		beforeGrams := slices.Clone(grams[:cap(grams)])
		x.Holding("cn", grams)
		holdTexts(t, "the grams", grams[:cap(grams)], beforeGrams)
	}
}

// P11.2, P0.1: what the caller writes later into what was handed in is seen nowhere; in a Terms that was asked for earlier neither.
func TestNothingIsKept(t *testing.T) {
	r := rand.New(rand.NewSource(116))
	for range 100 {
		entries := roomy(someEntries(r, 1+r.Intn(8)))
		x, q := Build(entries), askedOf(entries).some(r, 20)
		before, terms, want := told(x, q), x.Terms("cn"), slowTerms(entries, "cn")
		spoil(entries)
		if after := told(x, q); after != before {
			t.Fatalf("it told %s, then %s", before, after)
		}
		var got []term
		for normal, numbers := range terms {
			got = append(got, term{normal, numbers})
		}
		if !slices.EqualFunc(got, want, sameTerm) {
			t.Fatalf("Terms gives %v, want %v", got, want)
		}
	}
}

// lists are the answers that are lists of numbers.
func lists(x *Index, q asked) [][]int {
	var out [][]int
	for _, desc := range q.descs {
		out = append(out, x.Present(desc), x.Holding(desc, nil))
		for _, normal := range q.normals {
			out = append(out, x.Equal(desc, normal))
		}
		for _, gram := range q.grams {
			out = append(out, x.Gram(desc, gram), x.Holding(desc, []string{gram, gram}))
		}
		for _, one := range allTerms(x, desc) {
			out = append(out, one.numbers)
		}
	}
	return out
}

// P11.9, P0.1: what the caller writes into an answer is seen in no other one, of the same index or later.
func TestAnswersAreNewMemory(t *testing.T) {
	r := rand.New(rand.NewSource(117))
	for _, entries := range [][]api.Entry{four(), odd(), someEntries(r, 10), someEntries(r, 20)} {
		x, q := Build(entries), askedOf(entries).some(r, 30)
		before := told(x, q)
		first, second, names := lists(x, q), lists(x, q), x.Descs()
		want := fmt.Sprint(lists(x, q))
		spoilTexts(x.Descs())
		for _, list := range first {
			spoilNumbers(list)
		}
		if got := fmt.Sprint(second); got != want {
			t.Fatalf("by the change of others %s became %s", want, got)
		}
		holdTexts(t, "Descs()", names, slowDescs(entries))
		if after := told(x, q); after != before {
			t.Fatalf("it told %s, then %s", before, after)
		}
	}
}

// P11.9, P0.1: no two answers share memory, each written over alone, while Terms is ranged over too.
func TestAnswersShareNothing(t *testing.T) {
	x, q := Build(four()), askedOf(four())
	all := lists(x, q)
	for i, list := range all {
		before := make([][]int, len(all))
		for j, other := range all {
			before[j] = slices.Clone(other)
		}
		spoilNumbers(list)
		for j, other := range all {
			if j != i && !slices.Equal(other, before[j]) {
				t.Fatalf("answer %d changes answer %d", i, j)
			}
		}
	}
	y, want := steps(6)
	at := 0
	for normal, numbers := range y.Terms("cn") {
		if !sameTerm(term{normal, numbers}, want[at]) {
			t.Fatalf("it gives %q %d, want %v", normal, numbers, want[at])
		}
		spoilNumbers(numbers)
		_ = append(numbers, 99)
		at++
	}
	holdTerms(t, y, "cn", want...)
}

// P11.9: nothing that is asked changes what is answered later, whatever it is and however often.
func TestAskingChangesNothing(t *testing.T) {
	r := rand.New(rand.NewSource(118))
	entries := someEntries(r, 15)
	x, q := Build(entries), askedOf(entries)
	before := told(x, q)
	for range 300 {
		desc := pick(r, q.descs)
		switch r.Intn(6) {
		case 0:
			x.Present(desc)
		case 1:
			x.Equal(desc, pick(r, q.normals))
		case 2:
			x.Gram(desc, pick(r, q.grams))
		case 3:
			x.Holding(desc, q.grams[r.Intn(len(q.grams)):])
		case 4:
			frontTerms(x, desc, r.Intn(3))
		case 5:
			x.Descs()
		}
	}
	if after := told(x, q); after != before {
		t.Fatalf("it told %s, then %s", before, after)
	}
}

// P11.9, P0.1: many may ask one index, and build others, at once.
func TestManyAtOnce(t *testing.T) {
	r := rand.New(rand.NewSource(119))
	entries := someEntries(r, 12)
	x, q := Build(entries), askedOf(entries).some(r, 15)
	want, terms, wantTerms := told(x, q), x.Terms("cn"), slowTerms(entries, "cn")
	var all sync.WaitGroup
	for range 8 {
		all.Go(func() {
			for range 5 {
				if got := told(x, q); got != want {
					t.Errorf("it told %s", got)
				}
				if got := told(Build(entries), q); got != want {
					t.Errorf("another index of the same told %s", got)
				}
				var got []term
				for normal, numbers := range terms {
					got = append(got, term{normal, slices.Clone(numbers)})
					spoilNumbers(numbers)
				}
				if !slices.EqualFunc(got, wantTerms, sameTerm) {
					t.Errorf("Terms gave %v", got)
				}
			}
		})
	}
	all.Wait()
}

// P0.1: nil and empty lists are the same, in what is indexed and in what is asked.
func TestNilAndEmpty(t *testing.T) {
	asNil := []api.Entry{{}, {Attrs: []api.Attr{{Canon: "cn"}}}, with(at("sn", "lee"))}
	asEmpty := []api.Entry{{Key: []string{}, Attrs: []api.Attr{}}, {Attrs: []api.Attr{{Canon: "cn", Values: []string{}}}}, with(at("sn", "lee"))}
	q := askedOf(asNil)
	if one, other := told(Build(asNil), q), told(Build(asEmpty), q); one != other {
		t.Errorf("with nil %s, with empty lists %s", one, other)
	}
	x := Build(asNil)
	holdNumbers(t, "Holding", x.Holding("sn", nil), []int{2})
	holdNumbers(t, "Holding", x.Holding("sn", []string{}), []int{2})
}

// someText is a text of any bytes.
func someText(r *rand.Rand, longest int) string {
	b := make([]byte, r.Intn(longest+1))
	r.Read(b)
	return string(b)
}

// P11.9: no call panics, at any text.
func TestNoneRefused(t *testing.T) {
	r := rand.New(rand.NewSource(120))
	for range 200 {
		entries := someEntries(r, r.Intn(5))
		for i := range entries {
			entries[i].Attrs = append(entries[i].Attrs, at(someText(r, 4), someText(r, 9)), at(pick(r, canons()), someText(r, 9)))
		}
		x := Build(entries)
		for range 20 {
			desc := pick(r, append(canons(), someText(r, 5)))
			gram, other := someText(r, 4), someText(r, 3)
			holdNumbers(t, "Present", x.Present(desc), slowPresent(entries, desc))
			holdNumbers(t, "Equal", x.Equal(desc, gram), slowEqual(entries, desc, gram))
			holdNumbers(t, "Gram", x.Gram(desc, gram), slowGram(entries, desc, gram))
			holdNumbers(t, "Holding", x.Holding(desc, []string{gram, other}), slowHolding(entries, desc, []string{gram, other}))
			holdTerms(t, x, desc, slowTerms(entries, desc)...)
		}
	}
}

// P11.9: values and descriptions of great length.
func TestLongTexts(t *testing.T) {
	long := strings.Repeat("Ann  Lee ", 20000)
	options := "cn" + strings.Repeat(";x", 5000)
	x := Build([]api.Entry{with(at("cn", long)), with(at(options, "abc")), with(at(long, "abc"))})
	holdNumbers(t, "Gram", x.Gram("cn", "e a"), []int{0})
	holdNumbers(t, "Gram", x.Gram("cn;x", "abc"), []int{1})
	holdNumbers(t, "Present", x.Present("name"), []int{0, 1})
	holdNumbers(t, "Present", x.Present(options), []int{1})
	holdNumbers(t, "Present", x.Present(long), nil)
	holdNumbers(t, "Equal", x.Equal("cn", strings.Repeat("ann lee ", 20000)[:160000-1]), []int{0})
	holdNumbers(t, "Gram", x.Gram("cn", long), nil)
	holdNumbers(t, "Holding", x.Holding("cn", Grams(strings.ToLower(long))), nil)
	holdNumbers(t, "Holding", x.Holding("cn", Grams("ann lee ann")), []int{0})
	many := slices.Repeat([]string{"ann"}, 100000)
	holdNumbers(t, "Holding", x.Holding("cn", many), []int{0})
}
