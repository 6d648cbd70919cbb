package change

import (
	"slices"
	"testing"

	"roster/api"
)

// P20.2: the records ahead of a fault of every kind.
func TestRecordsUpToTheFault(t *testing.T) {
	for _, x := range []struct {
		behind string
		count  int
	}{
		{"", 5}, {"\n", 5}, {"\n\n#\n", 5},
		{"\nx\n", 5}, {"\ndn:<\n", 5}, {"\ndn: o=v\n", 5}, {"\ndn: o=v\ncontrol: 1\n", 5}, {"\ndn: o=v\ncontrol: 1.2:<\n", 5}, {"\ndn: o=v\no: v\n", 5}, {"\ndn: o=v\nchangetype: add\n", 5},
		{"\ndn: o=v\nchangetype: modify\nadd: cn\n", 5}, {"\ndn: o=v\nchangetype: modify\nadd: cn\n-\nadd: cn\n", 5}, {"\ndn: o=v\nchangetype: modrdn\nnewrdn:\n", 5}, {"\ndn: o=v\nchangetype: delete\nx\n", 5},
		{"\ndn: o=v\nchangetype: delete\n", 6}, {"\ndn: o=v\nchangetype: delete\n\ndn: o=u\n", 6}, {"\ndn: o=v\nchangetype: delete\n\nx\n\ndn: o=u\nchangetype: delete\n", 6},
		// A fault behind the lines of the last record takes it away.
		{"x\n", 4}, {"newrdn:\n", 4}, {"newsuperior:<\n", 4}, {"#\n-", 4},
		// A fault of the lines takes all of them.
		{"\r", 0}, {"\n x", 0}, {"\nx\n\n ", 0}, {"\n\n\n#\r#", 0},
	} {
		want := append(everyRecord(), erase(37, "o=v"))[:x.count]
		if got := slices.Collect(Records(every + x.behind)); told(got) != told(want) {
			t.Errorf("behind %q there are %s; want %s", x.behind, told(got), told(want))
		}
		holdText(t, every+x.behind)
	}
	for _, s := range []string{"", "\n", "version: 2\n" + every, every[1:], "version: 1", v, v + "\n", " ", "\r", v + "x\n\n" + every[len(v):], named} {
		if got := slices.Collect(Records(s)); len(got) != 0 {
			t.Errorf("Records(%q) gives %s", s, told(got))
		}
		holdText(t, s)
	}
}

// P20.2, P0.1: stopped behind any record, no further one is given; and each ranging begins at the beginning.
func TestRecordsStopped(t *testing.T) {
	for _, s := range []string{every, every + "x\n", every + "\nx\n", every + "\n\n", erasing} {
		all, _ := slowRead(s)
		records := Records(s)
		for most := 1; most <= len(all)+1; most++ {
			var got []api.ChangeRecord
			for c := range records {
				got = append(got, c)
				if len(got) == most {
					break
				}
			}
			if want := all[:min(most, len(all))]; told(got) != told(want) {
				t.Errorf("stopped behind %d of %q: %s", most, s, told(got))
			}
		}
		for range 2 {
			if got := slices.Collect(records); told(got) != told(all) {
				t.Errorf("ranged over again: %s; want %s", told(got), told(all))
			}
		}
	}
}

// P20.2: who says that it is enough is not asked again.
func TestRecordsAskNoMore(t *testing.T) {
	for _, s := range []string{every, every + "x\n", every + "\nx\n", erasing, erasing + "\nx\n"} {
		all, _ := slowRead(s)
		for most := 1; most <= len(all)+1; most++ {
			asked := 0
			Records(s)(func(api.ChangeRecord) bool {
				asked++
				return asked < most
			})
			if want := min(most, len(all)); asked != want {
				t.Errorf("Records(%q), enough behind %d: asked %d times", s, most, asked)
			}
		}
	}
}

// P20.2, P0.1: a ranging inside another one is by itself.
func TestRecordsInsideRecords(t *testing.T) {
	records, want := Records(every), everyRecord()
	outer := 0
	for c := range records {
		if told(c) != told(want[outer]) {
			t.Errorf("outside at %d: %s", outer, told(c))
		}
		outer++
		inner := 0
		for c := range records {
			if told(c) != told(want[inner]) {
				t.Errorf("inside at %d: %s", inner, told(c))
			}
			inner++
			if inner == outer {
				break
			}
		}
	}
	if outer != len(want) {
		t.Errorf("%d records", outer)
	}
}

// P20.2: behind any number of records of texts at random the stop is clean, with a fault further down too.
func TestRecordsStoppedAtRandom(t *testing.T) {
	m := newMaker(202)
	for range 3000 {
		s := m.text()
		ahead, _ := slowRead(s)
		most := 1 + m.Intn(3)
		var got []api.ChangeRecord
		for c := range Records(s) {
			got = append(got, c)
			if len(got) == most {
				break
			}
		}
		if told(got) != told(ahead[:min(most, len(ahead))]) {
			t.Fatalf("Records(%q) stopped behind %d: %s", s, most, told(got))
		}
	}
}
