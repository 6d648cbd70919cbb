package ldif

import (
	"math/rand"
	"slices"
	"testing"

	"roster/api"
)

const three = "version: 1\n\ndn: o=x\no: x\n\n#c\ndn:: bz15\no: y\ncn: z\n\ndn:\no:\n"

func threeRecords() []api.Record {
	return []api.Record{record(3, "o=x", "o", "x"), record(7, "o=y", "o", "y", "cn", "z"), record(11, "", "o", "")}
}

// P7.3: the chapter's example, and the records ahead of a fault of every kind.
func TestRecordsUpToTheFault(t *testing.T) {
	const s = head + "o: x\n\ndn: o=y\no y\n"
	if got := slices.Collect(Records(s)); !sameRecords(got, []api.Record{record(2, "o=x", "o", "x")}) {
		t.Errorf("Records(%#v) gives %#v", s, got)
	}
	for _, x := range []struct {
		behind string
		count  int
	}{
		{"", 3}, {"\n", 3}, {"\n\n#\n", 3},
		{"\ncn: x\n", 3}, {"\ndn:<\no: x\n", 3}, {"\ndn: o=z\n", 3}, {"\ndn: o=z\n\ndn: o=y\no: y\n", 3},
		{"\ndn: o=z\no\n", 3}, {"\ndn: o=z\no:<\n", 3}, {"\ndn: o=z\no: :\n", 3}, {"\ndn: o=z\ncontrol: x\n", 3},
		{"\ndn: o=z\no: z\n\ndn\n", 4}, {"\ndn: o=z\no: z\n\n#\ndn: o=y\n#", 4},
		// A fault in the lines of the third record takes it away.
		{"o\n", 2}, {"dn: o=z\n", 2}, {"cn:<\n", 2}, {"#\ncn:: x", 2}, {"control\n", 2},
		// A fault of Lines takes all of them.
		{"\r", 0}, {"\n x", 0}, {"\nx\n\n ", 0}, {"\n\n\n#\r#", 0},
	} {
		want := append(threeRecords(), record(14, "o=z", "o", "z"))[:x.count]
		if got := slices.Collect(Records(three + x.behind)); !sameRecords(got, want) {
			t.Errorf("behind %#v there are %#v; want %#v", x.behind, got, want)
		}
	}
	for _, s := range []string{"", "\n", "version: 2\n" + three, three[1:], "version: 1", "version: 1\n\n", " ", "\r"} {
		if got := slices.Collect(Records(s)); len(got) != 0 {
			t.Errorf("Records(%#v) gives %#v", s, got)
		}
	}
}

// P7.3, P0.1: stopped behind any record, no further one is given; and each ranging begins at the beginning.
func TestRecordsStopped(t *testing.T) {
	for _, s := range []string{three, three + "o\n", three + "\ndn\n", three + "\n\n"} {
		all := slices.Collect(Records(s))
		records := Records(s)
		for most := 1; most <= len(all)+1; most++ {
			var got []api.Record
			for r := range records {
				got = append(got, r)
				if len(got) == most {
					break
				}
			}
			if want := all[:min(most, len(all))]; !sameRecords(got, want) {
				t.Errorf("stopped behind %d of %#v: %#v", most, s, got)
			}
		}
		for range 2 {
			if got := slices.Collect(records); !sameRecords(got, all) {
				t.Errorf("ranged over again: %#v; want %#v", got, all)
			}
		}
	}
}

// P7.3: who says that it is enough is not asked again.
func TestRecordsAskNoMore(t *testing.T) {
	for _, s := range []string{three, three + "o\n", three + "\ndn\n", head + "o: x", head + "o: x\n\n"} {
		for most := 1; most <= 3; most++ {
			asked := 0
			Records(s)(func(api.Record) bool {
				asked++
				return asked < most
			})
			if want := min(most, len(slices.Collect(Records(s)))); asked != want {
				t.Errorf("Records(%q), enough behind %d: asked %d times", s, most, asked)
			}
		}
	}
}

// P7.3, P0.1: a ranging inside another one is by itself.
func TestRecordsInsideRecords(t *testing.T) {
	records := Records(three)
	want := threeRecords()
	outer := 0
	for r := range records {
		if !sameRecord(r, want[outer]) {
			t.Errorf("outside at %d: %#v", outer, r)
		}
		outer++
		inner := 0
		for r := range records {
			if !sameRecord(r, want[inner]) {
				t.Errorf("inside at %d: %#v", inner, r)
			}
			inner++
			if inner == outer {
				break
			}
		}
	}
	if outer != 3 {
		t.Errorf("%d records", outer)
	}
}

// P7.3: behind any number of records of texts at random the stop is clean, with a fault further down too.
func TestRecordsStoppedAtRandom(t *testing.T) {
	r := rand.New(rand.NewSource(73))
	for range 3000 {
		s := someSnapshot(r)
		ahead, _ := slowRead(s)
		most := 1 + r.Intn(3)
		var got []api.Record
		for one := range Records(s) {
			got = append(got, one)
			if len(got) == most {
				break
			}
		}
		if !sameRecords(got, ahead[:min(most, len(ahead))]) {
			t.Fatalf("Records(%#v) stopped behind %d: %#v", s, most, got)
		}
	}
}
