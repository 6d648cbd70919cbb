package patch

import (
	"testing"

	"roster/api"
)

// holdDiff holds the changes that make one tree of another.
func holdDiff(t *testing.T, a, b []api.Entry, want ...api.ChangeRecord) {
	t.Helper()
	x, y := grown(t, a...), grown(t, b...)
	if got, err := Diff(x, y); told(got) != told(want) || err != api.OK {
		t.Errorf("Diff of\n%sand\n%sis %s, %d; want %s", shown(x), shown(y), told(got), err, told(want))
	}
	holdTrees(t, x, y)
}

// holdNoDiff holds why there are none.
func holdNoDiff(t *testing.T, a, b []api.Entry, want api.Errno) {
	t.Helper()
	x, y := grown(t, a...), grown(t, b...)
	if got, err := Diff(x, y); len(got) != 0 || err != want {
		t.Errorf("Diff of\n%sand\n%sis %s, %d; want %d", shown(x), shown(y), told(got), err, want)
	}
	holdTrees(t, x, y)
}

// P21.4: the chapter's example 9, and the way back.
func TestExampleDiff(t *testing.T) {
	other := []api.Entry{having("o=x", "O", "X", "description", "new"), having("ou=b,o=x", "ou", "b")}
	holdDiff(t, example(), other, deleted(one), deleted("ou=a,o=x"), changed("o=x", to(2, "description", "new")))
	holdDiff(t, other, example(), changed("o=x", to(1, "description")), added("ou=a,o=x", "ou", "a"), added(one, "cn", "1", "sn", "Lee"))
}

// P21.4: of equal trees, however they are spelled, there is no change.
func TestDiffOfEqual(t *testing.T) {
	holdDiff(t, example(), example())
	holdDiff(t, example(), []api.Entry{having("O = X", "organizationName", " X "), having("OU=A,o=x", "ou", "A"), having("cn=1, ou=a, o=x", "surname", "LEE", "commonName", "1"), having("ou=\\62,o=x", "ou", "b")})
	holdDiff(t, []api.Entry{having("", "o", "x")}, []api.Entry{having("", "O", "X")})
}

// P21.4: entries at several depths: deletions from the last number down, then all else in the order of the numbers.
func TestDiffDepths(t *testing.T) {
	a := []api.Entry{having("o=x", "o", "x"), having("ou=a,o=x", "sn", "a"), having("cn=1,ou=a,o=x", "sn", "1"), having("cn=2,cn=1,ou=a,o=x", "sn", "2"), having("cn=3,ou=a,o=x", "sn", "3"), having("ou=b,o=x", "sn", "b"), having("cn=1,ou=b,o=x", "sn", "1")}
	b := []api.Entry{having("o=x", "o", "x"), having("ou=b,o=x", "sn", "c"), having("cn=1,ou=b,o=x", "sn", "1"), having("cn=9,cn=1,ou=b,o=x", "sn", "9"), having("ou=a,o=x", "sn", "a"), having("ou=0,o=x", "sn", "0"), having("cn=0,ou=0,o=x", "sn", "0")}
	holdDiff(t, a, b,
		deleted("cn=3,ou=a,o=x"), deleted("cn=2,cn=1,ou=a,o=x"), deleted("cn=1,ou=a,o=x"),
		added("ou=0,o=x", "sn", "0", "ou", "0"), added("cn=0,ou=0,o=x", "sn", "0", "cn", "0"), changed("ou=b,o=x", to(2, "sn", "c")), added("cn=9,cn=1,ou=b,o=x", "sn", "9", "cn", "9"))
	holdDiff(t, b, a,
		deleted("cn=9,cn=1,ou=b,o=x"), deleted("cn=0,ou=0,o=x"), deleted("ou=0,o=x"),
		added("cn=1,ou=a,o=x", "sn", "1", "cn", "1"), added("cn=2,cn=1,ou=a,o=x", "sn", "2", "cn", "2"), added("cn=3,ou=a,o=x", "sn", "3", "cn", "3"), changed("ou=b,o=x", to(2, "sn", "b")))
}

// P21.4: the names that are told: of what is deleted or modified a's, of what is added b's; no line is.
func TestDiffNames(t *testing.T) {
	a := []api.Entry{having("o=x", "o", "x"), having("OU=a, O=x", "ou", "a"), having("CN=b, o=x", "cn", "b")}
	b := []api.Entry{having("O=X", "o", "x"), having("ou=A,o=X", "ou", "a", "sn", "s"), having(" Cn=C,o=x", "sn", "d")}
	holdDiff(t, a, b, deleted("CN=b, o=x"), added(" Cn=C,o=x", "sn", "d", "Cn", "C"), changed("OU=a, O=x", to(2, "sn", "s")))
	holdDiff(t, b, a, deleted(" Cn=C,o=x"), added("CN=b, o=x", "cn", "b"), changed("ou=A,o=X", to(1, "sn")))
}

// P21.4: which attributes are told, in which order, with which Desc and values.
func TestDiffAttributes(t *testing.T) {
	root := func(words ...string) []api.Entry { return []api.Entry{having("dn=r", words...)} }
	a := root("sn", "a", "mail", "m", "cn", "1", "cn", "2", "l", "q", "Street", "s")
	for _, c := range []struct {
		to   []string
		want []api.Change
	}{
		{[]string{"Street", "s", "l", "q", "cn", "2", "cn", "1", "mail", "M", "sn", "A"}, nil},
		{[]string{"title", "t", "SURNAME", "b", "mail", "m", "commonName", "2", "cn", "3"}, []api.Change{to(2, "title", "t"), to(2, "SURNAME", "b"), to(2, "commonName", "2", "3"), to(1, "l"), to(1, "Street")}},
		{[]string{"o", "z"}, []api.Change{to(2, "o", "z"), to(1, "sn"), to(1, "mail"), to(1, "cn"), to(1, "l"), to(1, "Street")}},
		{[]string{"sn", "a", "sn", "b", "mail", "m", "cn", "1", "l", "q", "street", "S"}, []api.Change{to(2, "sn", "a", "b"), to(2, "cn", "1")}},
		{[]string{"sn;x", "a", "mail", "m", "cn", "1", "cn", "2", "l", "q", "street", "S", "sn", "A"}, []api.Change{to(2, "sn;x", "a")}},
		{[]string{"sn", "a", "mail", "m", "cn", "2", "cn", "1", "l", "q", "street", "S", "changetype", "a", "control", "b"}, []api.Change{to(2, "changetype", "a"), to(2, "control", "b")}},
	} {
		var want []api.ChangeRecord
		if c.want != nil {
			want = append(want, changed("dn=r", c.want...))
		}
		holdDiff(t, a, root(c.to...), want...)
	}
	// Reserved words first: sound, though no snapshot has it.
	holdDiff(t, root("control", "a", "sn", "b"), root("changetype", "c", "mail", "d"), changed("dn=r", to(2, "changetype", "c"), to(2, "mail", "d"), to(1, "control"), to(1, "sn")))
	holdDiff(t, root("sn", "b"), append(root("sn", "b"), having("control=1,dn=r", "changetype", "c", "sn", "b")), added("control=1,dn=r", "changetype", "c", "sn", "b", "control", "1"))
}

// P21.4: the refusals, and their order.
func TestDiffRefused(t *testing.T) {
	unsound := odd("o=x", "o=x")
	x, y := []api.Entry{having("o=x", "o", "x")}, []api.Entry{having("o=y", "o", "y")}
	bad := []api.Entry{unsound}
	holdNoDiff(t, x, y, api.ErrRoot)
	holdNoDiff(t, y, x, api.ErrRoot)
	holdNoDiff(t, x, []api.Entry{having("", "o", "x")}, api.ErrRoot)
	holdNoDiff(t, x, []api.Entry{having("o=x,o=x", "o", "x")}, api.ErrRoot)
	holdNoDiff(t, bad, y, api.ErrRoot)
	holdNoDiff(t, y, bad, api.ErrRoot)
	holdNoDiff(t, []api.Entry{odd("o=y", "o=x", at("o", "o", "y"))}, y, api.ErrRoot)
	holdNoDiff(t, bad, x, api.ErrBadChange)
	holdNoDiff(t, x, bad, api.ErrBadChange)
	holdNoDiff(t, bad, bad, api.ErrBadChange)
	exact := func(value string, more ...api.Entry) []api.Entry {
		return append([]api.Entry{having("o=x", "o", "x"), having("labeledURI="+value+",o=x", "cn", "a")}, more...)
	}
	holdNoDiff(t, exact("U"), exact("u"), api.ErrOwnValue)
	holdNoDiff(t, exact("u"), exact("U"), api.ErrOwnValue)
	holdNoDiff(t, exact("U", odd("cn=1,o=x", "o=x/cn=1")), exact("u"), api.ErrBadChange)
	holdNoDiff(t, exact("U"), exact("u", odd("cn=1,o=x", "o=x/cn=1")), api.ErrBadChange)
	holdDiff(t, exact("U"), exact("U"))
	holdNoDiff(t, []api.Entry{having("labeledURI=X", "cn", "a")}, []api.Entry{having("labeledURI=x", "cn", "a")}, api.ErrOwnValue)
	// The name in b doesn't matter, if the value is there that a's name needs.
	both := []api.Entry{having("o=x", "o", "x"), having("labeledURI=u,o=x", "labeledURI", "U", "cn", "a")}
	holdDiff(t, exact("U"), both, changed("labeledURI=U,o=x", to(2, "labeledURI", "U", "u")))
	holdNoDiff(t, both, exact("U"), api.ErrOwnValue)
	// What only one of them has needs nothing.
	holdDiff(t, exact("U"), x, deleted("labeledURI=U,o=x"))
	holdDiff(t, x, exact("u"), added("labeledURI=u,o=x", "cn", "a", "labeledURI", "u"))
}

// P21.4: what is sound: each thing that makes an entry unsound, alone, in either tree, at the root or beneath it.
func TestUnsound(t *testing.T) {
	sound := having("cn=1,o=x", "cn", "1", "sn", "a", "sn", "b")
	root := having("o=x", "o", "x")
	with := func(alter func(*api.Entry)) api.Entry {
		e := slowCopy([]api.Entry{sound})[0]
		for i := range e.Attrs {
			e.Attrs[i].Values = append([]string(nil), e.Attrs[i].Values...)
		}
		alter(&e)
		return e
	}
	holdDiff(t, []api.Entry{root, with(func(*api.Entry) {})}, []api.Entry{root, sound})
	holdDiff(t, []api.Entry{root, with(func(e *api.Entry) { e.Line = -9 })}, []api.Entry{root, sound})
	holdDiff(t, []api.Entry{root, with(func(e *api.Entry) { e.Name = "CN = 1 , O=X" })}, []api.Entry{root, sound})
	holdDiff(t, []api.Entry{root, with(func(e *api.Entry) { e.Attrs[0], e.Attrs[1] = e.Attrs[1], e.Attrs[0] })}, []api.Entry{root, sound})
	for why, alter := range map[string]func(*api.Entry){
		"a name that doesn't parse":         func(e *api.Entry) { e.Name = "cn" },
		"a name that hasn't the key":        func(e *api.Entry) { e.Name = "sn=a,o=x" },
		"a name of another parent":          func(e *api.Entry) { e.Name = "cn=1,o=y" },
		"no attribute":                      func(e *api.Entry) { e.Attrs = nil },
		"an own pair that isn't there":      func(e *api.Entry) { e.Attrs = e.Attrs[1:] },
		"an attribute without a value":      func(e *api.Entry) { e.Attrs = append(e.Attrs, at("mail", "mail")) },
		"one Canon twice":                   func(e *api.Entry) { e.Attrs = append(e.Attrs, at("sn", "sn", "c")) },
		"equal values":                      func(e *api.Entry) { e.Attrs[1].Values[1] = "A" },
		"another Canon":                     func(e *api.Entry) { e.Attrs[1].Canon = "mail" },
		"a Canon that isn't canonical":      func(e *api.Entry) { e.Attrs[1].Canon = "SN" },
		"a Desc that is none":               func(e *api.Entry) { e.Attrs[1].Desc = "s n" },
		"a Desc of another Canon":           func(e *api.Entry) { e.Attrs[1].Desc = "mail" },
		"a Desc that is dn":                 func(e *api.Entry) { e.Attrs[1] = at("dn", "dn", "a") },
		"a Desc that is DN":                 func(e *api.Entry) { e.Attrs = append(e.Attrs, at("DN", "dn", "a")) },
		"the last attribute without values": func(e *api.Entry) { e.Attrs[1].Values = nil },
	} {
		e := with(alter)
		t.Run(why, func(t *testing.T) {
			if slowSound(e) {
				t.Fatalf("it is sound: %s", told(e))
			}
			holdNoDiff(t, []api.Entry{root, e}, []api.Entry{root}, api.ErrBadChange)
			holdNoDiff(t, []api.Entry{root}, []api.Entry{root, e}, api.ErrBadChange)
			holdNoDiff(t, []api.Entry{root, e}, []api.Entry{root, e}, api.ErrBadChange)
			alone := e
			alone.Key = sound.Key
			holdNoDiff(t, []api.Entry{alone}, []api.Entry{sound}, api.ErrBadChange)
			holdNoDiff(t, []api.Entry{sound}, []api.Entry{alone}, api.ErrBadChange)
		})
	}
	// Reserved words alone.
	reserved := having("dn=r", "changetype", "a", "Control", "b")
	holdNoDiff(t, []api.Entry{reserved}, []api.Entry{having("dn=r", "sn", "a")}, api.ErrBadChange)
	holdNoDiff(t, []api.Entry{having("dn=r", "sn", "a")}, []api.Entry{reserved}, api.ErrBadChange)
	holdNoDiff(t, []api.Entry{having("")}, []api.Entry{having("", "sn", "a")}, api.ErrBadChange)
	holdDiff(t, []api.Entry{having("dn=r", "changetype", "a", "Control", "b", "sn", "a")}, []api.Entry{having("dn=r", "sn", "a")}, changed("dn=r", to(1, "changetype"), to(1, "Control")))
}
