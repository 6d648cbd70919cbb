package ldif

import (
	"math/rand"
	"strings"
	"testing"

	"roster/api"
)

func list(records ...api.Record) []api.Record { return records }

// P7.4: the chapter's example, and a value of every kind.
func TestRenderTold(t *testing.T) {
	for _, x := range []struct {
		records []api.Record
		want    string
	}{
		{list(record(9, "o=x", "o", "x", "cn;lang-fr", "caf\xc3\xa9", "sn", "", "l", " x")),
			"version: 1\n\ndn: o=x\no: x\ncn;lang-fr:: Y2Fmw6k=\nsn:\nl:: IHg=\n"},
		{list(record(0, "", "o", "")), "version: 1\n\ndn:\no:\n"},
		{list(record(-5, "\xff", "o", "x ")), "version: 1\n\ndn:: /w==\no:: eCA=\n"},
		{list(record(1, " ", "o", " ")), "version: 1\n\ndn:: IA==\no:: IA==\n"},
		{list(record(1, ":", "o", "<", "o", "a:<b")), "version: 1\n\ndn:: Og==\no:: PA==\no: a:<b\n"},
		{list(record(1, "a\n", "o", "\r", "o", "\x00", "o", "\t")), "version: 1\n\ndn:: YQo=\no:: DQ==\no:: AA==\no: \t\n"},
		{list(record(1, "#", "O", "#")), "version: 1\n\ndn: #\nO: #\n"},
		{list(record(1, "a", "o", "x"), record(1, "a", "o", "x")), "version: 1\n\ndn: a\no: x\n\ndn: a\no: x\n"},
		{list(record(1, "a", "o", "x", "changetype", "x", "Control", "y")), "version: 1\n\ndn: a\no: x\nchangetype: x\nControl: y\n"},
		{list(record(1, "a", "DN;x", "x", "dnq", "y", "1.2;B;a;b", "z")), "version: 1\n\ndn: a\nDN;x: x\ndnq: y\n1.2;B;a;b: z\n"},
		{list(record(1, "a", "changetype;x", "x", "version", "2")), "version: 1\n\ndn: a\nchangetype;x: x\nversion: 2\n"},
	} {
		got, err, at := Render(x.records)
		if got != x.want || err != api.OK || at != 0 {
			t.Errorf("Render(%#v) = %#v, %d, %d; want %#v", x.records, got, err, at, x.want)
		}
		holdRender(t, x.records)
	}
}

// P7.4: what can't be rendered, and the place of the first such record.
func TestRenderRefused(t *testing.T) {
	fine := record(1, "a", "b", "c")
	for _, x := range []struct {
		records []api.Record
		want    fault
	}{
		{nil, fault{73, 0}},
		{[]api.Record{}, fault{73, 0}},
		{list(fine, api.Record{}), fault{79, 1}},
		{list(record(0, "a", "dn", "c")), fault{75, 0}},
		{list(api.Record{}), fault{79, 0}},
		{list(api.Record{Name: "a", Pairs: []api.Pair{}}), fault{79, 0}},
		{list(fine, fine, record(1, "a", "Dn", "c")), fault{75, 2}},
		{list(fine, record(1, "a", "o", "x", "DN", "c")), fault{75, 1}},
		{list(record(1, "a", "", "c")), fault{75, 0}},
		{list(record(1, "a", "o ", "c")), fault{75, 0}},
		{list(record(1, "a", "o:", "c")), fault{75, 0}},
		{list(record(1, "a", "#o", "c")), fault{75, 0}},
		{list(record(1, "a", "o;", "c")), fault{75, 0}},
		{list(record(1, "a", "1", "c")), fault{75, 0}},
		{list(record(1, "a", "o\n", "c")), fault{75, 0}},
		{list(record(1, "a", "changetype", "c")), fault{78, 0}},
		{list(fine, record(1, "a", "CONTROL", "c")), fault{78, 1}},
		{list(record(1, "a", "Control", "c", "x y", "")), fault{78, 0}},
		{list(record(1, "a", "x y", "c", "control", "")), fault{75, 0}},
		{list(record(1, "a", "o", "c", "control", "", "_", "")), fault{75, 0}},
		// Of two records at fault the first.
		{list(fine, api.Record{}, record(1, "a", "dn", "c")), fault{79, 1}},
		{list(record(1, "a", "dn", "c"), api.Record{}), fault{75, 0}},
		{list(record(1, "a", "control", "c"), api.Record{}), fault{78, 0}},
	} {
		got, err, at := Render(x.records)
		if got != "" || (fault{err, at}) != x.want {
			t.Errorf("Render(%#v) = %#v, %d, %d; want %v", x.records, got, err, at, x.want)
		}
		holdRender(t, x.records)
	}
}

// P7.4: every value of up to two bytes, as a name and as a value.
func TestRenderEveryValue(t *testing.T) {
	for a := range 256 {
		holdRender(t, list(record(0, string([]byte{byte(a)}), "o", string([]byte{byte(a)}))))
		for b := range 256 {
			value := string([]byte{byte(a), byte(b)})
			holdRender(t, list(record(0, value, "o", value)))
		}
	}
}

// P7.4: every byte at every place of a description.
func TestRenderEveryDesc(t *testing.T) {
	for _, desc := range []string{"o", "dn", "cn;x", "1.2", "control", "ChangeType"} {
		holdRender(t, list(record(0, "a", desc, "b")))
		holdRender(t, list(record(0, "a", "o", "", desc, "b")))
		forAllNear(desc, func(near string) {
			holdRender(t, list(record(0, "a", near, "b")))
			holdRender(t, list(record(0, "a", "o", "", near, "b")))
		})
	}
}

// P7.4: lists at random.
func TestRenderAtRandom(t *testing.T) {
	r := rand.New(rand.NewSource(74))
	done := 0
	for range 20000 {
		records := someRecords(r)
		holdRender(t, records)
		if _, err, _ := Render(records); err == api.OK {
			done++
		}
	}
	if done < 500 {
		t.Errorf("of the lists only %d are rendered", done)
	}
}

// P7.2, P7.4: what Load gives, Render takes, whatever the snapshot looked like.
func TestRenderWhatIsLoaded(t *testing.T) {
	r := rand.New(rand.NewSource(75))
	for range 10000 {
		s := someSnapshot(r)
		records, err, _ := Load(s)
		if err != api.OK {
			continue
		}
		if _, err, at := Render(records); err != api.OK || at != 0 {
			t.Fatalf("Render(Load(%q)): %d, %d", s, err, at)
		}
		holdRender(t, records)
	}
}

// P7.4: no line is folded, however long it is.
func TestRenderLong(t *testing.T) {
	long := strings.Repeat("x", 5000)
	got, _, _ := Render(list(record(0, long, long, long, "o", long+" ")))
	if strings.Count(got, "\n") != 5 || strings.Contains(got, "\n ") {
		t.Errorf("%d line ends", strings.Count(got, "\n"))
	}
	holdRender(t, list(record(0, long, long, long, "o", long+" ")))
}
