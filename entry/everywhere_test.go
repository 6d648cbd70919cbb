package entry

import (
	"math/rand"
	"slices"
	"sync"
	"testing"

	"roster/api"
)

// roomyTexts are texts with spare room that has something in it.
func roomyTexts(texts []string) []string {
	return append(slices.Clone(texts), "spare", "room")[:len(texts)]
}

func roomyAttrs(attrs []api.Attr) []api.Attr {
	out := append(slices.Clone(attrs), at("spare", "spare", "room"), at("more", "more", "room"))
	for i := range out {
		out[i].Values = roomyTexts(out[i].Values)
	}
	return out[:len(attrs)]
}

// deepAttrs is a copy of all of it, spare room too.
func deepAttrs(attrs []api.Attr) []api.Attr {
	out := slices.Clone(attrs[:cap(attrs)])
	for i := range out {
		out[i].Values = slices.Clone(out[i].Values[:cap(out[i].Values)])
	}
	return out
}

func spoilTexts(texts []string) {
	for i := range texts[:cap(texts)] {
		texts[:cap(texts)][i] = "spoilt"
	}
}

// spoilAttrs writes over all that a list has, spare room too.
func spoilAttrs(attrs []api.Attr) {
	for i := range attrs[:cap(attrs)] {
		spoilTexts(attrs[:cap(attrs)][i].Values)
		attrs[:cap(attrs)][i] = at("spoilt", "spoilt")
	}
}

// P8.7, P0.1: what is handed in is not changed, spare room too.
func TestNothingIsChanged(t *testing.T) {
	r := rand.New(rand.NewSource(89))
	for range 2000 {
		a, b := roomyAttrs(someAttrs(r)), roomyAttrs(someAttrs(r))
		wanted := roomyTexts([]string{someText(r), someText(r), someText(r)})
		e := api.Entry{Name: "cn=a", Key: roomyTexts([]string{"cn=a"}), Attrs: a}
		pairs := Back(having(b...)).Pairs
		rec := api.Record{Name: someName(r), Pairs: append(slices.Clone(pairs), api.Pair{Desc: "spare"}, api.Pair{Desc: "room"})[:len(pairs)]}
		beforeA, beforeB, beforeWanted := deepAttrs(a), deepAttrs(b), slices.Clone(wanted[:cap(wanted)])
		beforeKey, beforePairs := slices.Clone(e.Key[:cap(e.Key)]), slices.Clone(rec.Pairs[:cap(rec.Pairs)])
		Make(rec)
		Gather([]api.Record{rec, rec})
		Back(e)
		Values(e, wanted[0])
		Has(e, wanted[0])
		Select(e, wanted, r.Intn(2) == 0)
		Merge(a, b)
		if !sameAttrs(deepAttrs(a), beforeA) || !sameAttrs(deepAttrs(b), beforeB) {
			t.Fatalf("attributes were changed: %#v, %#v", deepAttrs(a), deepAttrs(b))
		}
		if !slices.Equal(wanted[:cap(wanted)], beforeWanted) || !slices.Equal(e.Key[:cap(e.Key)], beforeKey) || !slices.Equal(rec.Pairs[:cap(rec.Pairs)], beforePairs) {
			t.Fatalf("a list was changed: %q, %q, %#v", wanted, e.Key, rec.Pairs)
		}
	}
}

// holdApart holds lists of attributes, the answer of one call, to share no memory: each is spoilt in its turn, and those behind it stay.
func holdApart(t *testing.T, attrs, want []api.Attr) {
	t.Helper()
	for i := range attrs {
		values := attrs[i].Values
		spoilTexts(values)
		if !sameAttrs(attrs[i+1:], want[i+1:]) {
			t.Errorf("by the change of the values at %d the others became %#v", i, attrs[i+1:])
		}
	}
	spoilAttrs(attrs)
}

// P8.7, P0.1: an answer's lists are new memory: none is seen to change with another one, nor with an argument.
func TestAnswersAreNewMemory(t *testing.T) {
	e := mixed(t)
	own := roomyAttrs(e.Attrs)
	whole := api.Entry{Line: e.Line, Name: e.Name, Key: e.Key, Attrs: own}
	all := []string{"*", "+"}
	for name, call := range map[string]func() []api.Attr{
		"Make":   func() []api.Attr { return made(t, Back(whole)).Attrs },
		"Select": func() []api.Attr { return Select(whole, all, false) },
		"Types":  func() []api.Attr { return Select(whole, all, true) },
		"Merge":  func() []api.Attr { return Merge(own, nil) },
		"Added":  func() []api.Attr { return Merge(nil, own) },
	} {
		want, second := call(), call()
		holdApart(t, call(), want)
		if !sameAttrs(second, want) || !sameAttrs(own, e.Attrs) {
			t.Errorf("%s: by another answer's change it became %#v, the argument %#v", name, second, own)
		}
	}
}

// P8.7, P0.1: so are keys, values and pairs.
func TestListsAreNewMemory(t *testing.T) {
	r := ann()
	entries, _, _ := Gather([]api.Record{r, r})
	alone := made(t, r)
	spoilTexts(entries[0].Key)
	spoilAttrs(entries[0].Attrs)
	if !sameEntry(entries[1], alone) || !sameEntry(made(t, r), alone) {
		t.Errorf("the second entry became %#v", entries[1])
	}
	spoilTexts(Values(alone, "cn"))
	spoilTexts(Values(alone, "cn")[:1])
	pairs := Back(alone).Pairs
	for i := range pairs[:cap(pairs)] {
		pairs[:cap(pairs)][i] = api.Pair{Desc: "spoilt"}
	}
	if !sameEntry(alone, made(t, ann())) || !sameRecord(r, ann()) {
		t.Errorf("the entry became %#v, the record %#v", alone, r)
	}
}

// P8.7, P0.1: what the caller writes into an argument behind a call is not seen in its answer.
func TestNothingIsKept(t *testing.T) {
	r, e := ann(), made(t, ann())
	entry, record, values := made(t, r), Back(e), Values(e, "cn")
	sent, merged := Select(e, nil, false), Merge(e.Attrs, nil)
	for i := range r.Pairs {
		r.Pairs[i] = api.Pair{Desc: "spoilt"}
	}
	spoilTexts(e.Key)
	spoilAttrs(e.Attrs)
	fresh := made(t, ann())
	if !sameEntry(entry, fresh) || !sameRecord(record, Back(fresh)) || !slices.Equal(values, []string{"Ann", "Lee"}) {
		t.Errorf("they became %#v, %#v, %q", entry, record, values)
	}
	if !sameAttrs(sent, Select(fresh, nil, false)) || !sameAttrs(merged, fresh.Attrs) {
		t.Errorf("they became %#v, %#v", sent, merged)
	}
}

// someBytes are bytes of all kinds, of which descriptions and names may come.
func someBytes(r *rand.Rand) string {
	raw := make([]byte, r.Intn(12))
	for i := range raw {
		raw[i] = pick(r, "c", "n", "=", ",", "+", ";", "1", ".", "*", "\\", "#", " ", string([]byte{byte(r.Intn(256))}))[0]
	}
	return string(raw)
}

// P8.7, P0.1: no call panics at any text, and each answers what the chapter says.
func TestCallsAtAnyText(t *testing.T) {
	r := rand.New(rand.NewSource(90))
	for range 10000 {
		holdMake(t, record(1, someBytes(r), someBytes(r), someBytes(r)))
		holdMake(t, record(1, "cn=a", "sn"+someBytes(r), someBytes(r)))
		e := having(at(someBytes(r), someBytes(r), someBytes(r)), at("cn", "cn"+someBytes(r), someBytes(r)))
		holdBack(t, e)
		holdValues(t, e, "cn"+someBytes(r))
		holdSelect(t, e, someBytes(r), "cn"+someBytes(r))
		holdMerge(t, e.Attrs, e.Attrs)
	}
}

// P8.7, P0.1: what is answered doesn't hang on the order in which a map is gone through.
func TestAnswersAreFixed(t *testing.T) {
	r := rand.New(rand.NewSource(91))
	for range 50 {
		rec := record(1, "cn=a+sn=b+l=c", somePairs(r, someDesc)...)
		a, b := someAttrs(r), someAttrs(r)
		wanted := []string{someText(r), someText(r), someText(r)}
		first, merged := made(t, rec), Merge(a, b)
		for range 30 {
			if !sameEntry(made(t, rec), first) || !sameAttrs(Merge(a, b), merged) {
				t.Fatalf("Make(%#v) or Merge(%#v, %#v) answers two things", rec, a, b)
			}
			holdSelect(t, first, wanted...)
		}
	}
}

// P0.1: calls at the same time do not meet.
func TestCallsAreAlone(t *testing.T) {
	shared := mixed(t)
	var group sync.WaitGroup
	for i := range 8 {
		group.Go(func() {
			r := rand.New(rand.NewSource(int64(i)))
			for range 200 {
				rec := record(1, someName(r), somePairs(r, someText)...)
				want, wantErr := slowMake(rec)
				if got, err := Make(rec); err != wantErr || !sameEntry(got, want) {
					t.Errorf("Make(%#v) = %#v, %d", rec, got, err)
				}
				wanted := []string{someText(r), someText(r)}
				if got := Select(shared, wanted, false); !sameAttrs(got, slowSelect(shared, wanted, false)) {
					t.Errorf("Select(.., %q) = %#v", wanted, got)
				}
				attrs := someAttrs(r)
				if got := Merge(shared.Attrs, attrs); !sameAttrs(got, slowMerge(shared.Attrs, attrs)) {
					t.Errorf("Merge(.., %#v) = %#v", attrs, got)
				}
			}
		})
	}
	group.Wait()
}
