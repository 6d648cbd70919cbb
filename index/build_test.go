package index

import (
	"fmt"
	"math/rand"
	"runtime"
	"slices"
	"strconv"
	"testing"
	"time"

	"roster/api"
)

// P11.2: no entries, nil and empty alike, and entries without anything.
func TestBuildOfNothing(t *testing.T) {
	for _, entries := range [][]api.Entry{nil, {}, four()[:0], {{}}, {{}, with(), with(at("cn"))}} {
		holdIndex(t, entries)
		x := Build(entries)
		if x == nil || x.Size() != len(entries) || len(x.Descs()) != 0 || len(x.Present("cn")) != 0 || len(x.Equal("cn", "")) != 0 || len(x.Gram("cn", "ann")) != 0 || len(x.Holding("cn", nil)) != 0 {
			t.Errorf("the index of %d entries without a value has something", len(entries))
		}
		holdTerms(t, x, "cn")
	}
}

// P11.2: an entry's number is its place in the list, whatever its line, name and key are, and though others are equal to it.
func TestNumbersArePlaces(t *testing.T) {
	one := api.Entry{Line: 9, Name: "cn=a", Key: []string{"cn=a"}, Attrs: []api.Attr{at("cn", "abc")}}
	other := api.Entry{Line: 1, Name: "cn=0", Key: []string{"cn=0"}, Attrs: []api.Attr{at("cn", "xyz")}}
	x := Build([]api.Entry{one, other, one, {}, one})
	holdNumbers(t, "Equal", x.Equal("cn", "abc"), []int{0, 2, 4})
	holdNumbers(t, "Gram", x.Gram("cn", "abc"), []int{0, 2, 4})
	holdNumbers(t, "Present", x.Present("cn"), []int{0, 1, 2, 4})
	holdTerms(t, x, "cn", term{"abc", []int{0, 2, 4}}, term{"xyz", []int{1}})
}

// wide are entries with many Canons, more than goroutines build an index.
func wide(entries, descs int) []api.Entry {
	var out []api.Entry
	for i := range entries {
		var e api.Entry
		for j := range descs {
			if (i+j)%3 != 0 {
				e.Attrs = append(e.Attrs, at("cn;x"+strconv.Itoa(j), "Value "+strconv.Itoa(i%4), strconv.Itoa(j)))
			}
		}
		out = append(out, e)
	}
	return out
}

// P11.2: every Canon has its column, however many there are; all builds of one list tell the same.
func TestAllBuildsTellTheSame(t *testing.T) {
	r := rand.New(rand.NewSource(121))
	for _, descs := range []int{1, 2, shards - 1, shards, shards + 1, 2*shards + 1, 100} {
		entries := wide(12, descs)
		q := askedOf(entries).some(r, 10)
		want := told(Build(entries), q)
		for range 10 {
			if got := told(Build(entries), q); got != want {
				t.Fatalf("of %d descriptions: %s, then %s", descs, want, got)
			}
		}
		holdAsked(t, entries, q)
	}
}

// P11.2: long lists, and one of which every entry has the same.
func TestManyEntries(t *testing.T) {
	var entries []api.Entry
	for i := range 3000 {
		entries = append(entries, with(at("cn", fmt.Sprint("user ", i)), at("sn", "Same"), at("uidnumber", strconv.Itoa(i%7))))
	}
	x := Build(entries)
	var all, third, sevens []int
	for i := range 3000 {
		all = append(all, i)
		if i%7 == 3 {
			third = append(third, i)
		}
		if s := strconv.Itoa(i); s[0] == '7' {
			sevens = append(sevens, i)
		}
	}
	holdNumbers(t, "Present", x.Present("sn"), all)
	holdNumbers(t, "Equal", x.Equal("sn", "same"), all)
	holdNumbers(t, "Gram", x.Gram("name", "ame"), all)
	holdNumbers(t, "Equal", x.Equal("uidNumber", "3"), third)
	holdNumbers(t, "Gram", x.Gram("cn", "r 7"), sevens)
	holdNumbers(t, "Holding", x.Holding("name", []string{"r 7", "use", "sam"}), sevens)
	holdNumbers(t, "Equal", x.Equal("cn", "user 2999"), []int{2999})
	if got := len(allTerms(x, "cn")); got != 3000 {
		t.Errorf("Terms gives %d", got)
	}
}

// P11.2: indexes know nothing of each other.
func TestSideBySide(t *testing.T) {
	r := rand.New(rand.NewSource(114))
	var lists [][]api.Entry
	var indexes []*Index
	for range 20 {
		lists = append(lists, someEntries(r, r.Intn(6)))
		indexes = append(indexes, Build(lists[len(lists)-1]))
	}
	for i, x := range indexes {
		q := askedOf(slices.Concat(lists...)).some(r, 12)
		if got, want := told(x, q), told(Build(lists[i]), q); got != want {
			t.Fatalf("beside others it tells %s, alone %s", got, want)
		}
		holdTexts(t, "Descs()", x.Descs(), slowDescs(lists[i]))
	}
	x, y := Build(four()), Build([]api.Entry{with(at("cn", "Bo")), with(at("mail", "b@x"))})
	holdNumbers(t, "Present", x.Present("cn"), []int{0, 1, 3})
	holdNumbers(t, "Present", y.Present("cn"), []int{0})
	holdNumbers(t, "Present", x.Present("mail"), nil)
	holdTerms(t, x, "cn", term{"ann lee", []int{0, 1}})
	holdTerms(t, y, "cn", term{"bo", []int{0}})
}

// P11.2: the goroutines have ended. (One that has told so may take a moment to be gone.)
func TestGoroutinesHaveEnded(t *testing.T) {
	before := runtime.NumGoroutine()
	for range 20 {
		Build(wide(4, 40))
	}
	for range 1000 {
		if runtime.NumGoroutine() <= before {
			return
		}
		time.Sleep(time.Millisecond)
	}
	t.Errorf("%d goroutines became %d", before, runtime.NumGoroutine())
}
