package eval

import (
	"slices"
	"testing"

	"roster/api"
	"roster/filter"
)

func holdCompile(t *testing.T, f api.Filter, e api.Entry) {
	t.Helper()
	want, _ := filter.Check(f)
	test, err := Compile(f)
	if err != want || (test == nil) != (want != api.OK) {
		t.Errorf("Compile(%s) = %v, %d, want %d", told(f), test, err, want)
	}
	if test == nil {
		return
	}
	if got := test.On(e); got != slowValue(f, e) {
		t.Errorf("On of %s = %d, want %d, on %#v", told(f), got, slowValue(f, e), e)
	}
}

// P14.4: what is no filter gives filter.Check's error and no Test.
func TestCompileRefuses(t *testing.T) {
	for _, c := range []struct {
		f    api.Filter
		want api.Errno
	}{
		{nil, api.ErrFilter}, {list(), api.ErrFilter}, {list(op(1, api.Not)), api.ErrFilter}, {list(yes, yes), api.ErrFilter}, {list(op(1, 10)), api.ErrFilter},
		{chain(api.And, api.MaxFilter, yes), api.ErrDeep}, {chain(api.Not, api.MaxFilter, yes), api.ErrDeep},
		{append(list(op(1, api.Not)), deeper(chain(api.Or, api.MaxFilter, yes), 1)...), api.ErrDeep},
		{append(list(with(1, api.And, "cn", "")), deeper(chain(api.Or, api.MaxFilter, yes), 1)...), api.ErrFilter},
	} {
		if test, err := Compile(c.f); test != nil || err != c.want {
			t.Errorf("Compile(%s) = %v, %d, want %d", told(c.f), test, err, c.want)
		}
	}
}

// P14.4: a Test is asked again and again, of all entries, in any order, and two of them in turns.
func TestOn(t *testing.T) {
	m := newMaker(145)
	for range 100 {
		f, g := m.filter(1+m.Intn(5)), m.filter(1+m.Intn(5))
		holdCompile(t, f, m.entry())
		one, _ := Compile(f)
		other, _ := Compile(g)
		for range 30 {
			e := m.entry()
			if got, want := one.On(e), slowValue(f, e); got != want {
				t.Fatalf("On of %s = %d, want %d, on %#v", told(f), got, want, e)
			}
			if m.Intn(2) == 0 {
				e = m.entry()
			}
			if got, want := other.On(e), slowValue(g, e); got != want {
				t.Fatalf("On of %s = %d, want %d, on %#v", told(g), got, want, e)
			}
		}
	}
}

// P14.4: each item by itself, on all entries forth and back.
func TestOnOfEachItem(t *testing.T) {
	m, entries := newMaker(146), someEntries()
	for range 1000 {
		f := list(m.item())
		test, err := Compile(f)
		if err != api.OK {
			t.Fatalf("Compile(%s) = %d", told(f), err)
		}
		var forth, back []api.Truth
		for i := range entries {
			forth = append(forth, test.On(entries[i]))
			back = append(back, test.On(entries[len(entries)-1-i]))
		}
		slices.Reverse(back)
		want := Run(f, entries)
		if !slices.Equal(forth, want) || !slices.Equal(back, want) {
			t.Fatalf("On of %s = %d and %d, want %d", told(f), forth, back, want)
		}
	}
}

// P14.4: what the caller writes into the filter behind Compile makes no difference.
func TestWrittenOverBehindCompile(t *testing.T) {
	m := newMaker(147)
	for range 500 {
		f, e := roomy(m.filter(1+m.Intn(5))), m.entry()
		want := slowValue(f, e)
		test, _ := Compile(f)
		other, _ := Compile(f)
		other.On(e)
		spoil(f)
		if got, again := test.On(e), other.On(e); got != want || again != want {
			t.Fatalf("what was written over: %d and %d, want %d", got, again, want)
		}
	}
	// The pieces and the Op alone.
	f := list(sub(1, "cn", "", []string{"n", "n"}, ""))
	test, _ := Compile(f)
	f[0].Parts.Any[0] = "z"
	if got := test.On(ann()); got != T {
		t.Errorf("a piece written over: %d", got)
	}
	f = under(api.Not, under(api.And, list(yes), list(yes)))
	test, _ = Compile(f)
	f[1].Op, f[2] = api.Or, no
	f = append(f[:1], no)
	if got := test.On(ann()); got != F {
		t.Errorf("a node written over: %d", got)
	}
}

// P14.5: the value on each of the entries, in their order.
func TestRun(t *testing.T) {
	m := newMaker(148)
	for range 500 {
		f := m.filter(1 + m.Intn(4))
		var entries []api.Entry
		var want []api.Truth
		for range m.Intn(8) {
			e := m.entry()
			entries, want = append(entries, e), append(want, slowValue(f, e))
		}
		if got := Run(f, entries); !slices.Equal(got, want) {
			t.Fatalf("Run(%s) = %d, want %d, over %#v", told(f), got, want, entries)
		}
	}
	entries := []api.Entry{ann(), {}, named("", at("cn", "")), named("", at("cn")), ann()}
	if got := Run(list(yes), entries); !slices.Equal(got, []api.Truth{T, F, T, F, T}) {
		t.Errorf("Run = %d", got)
	}
}

// P14.5: no entries, and lists that are no filter.
func TestRunOfNothing(t *testing.T) {
	for _, f := range []api.Filter{nil, {}, list(yes), list(op(1, api.Not)), chain(api.And, api.MaxFilter, yes)} {
		if got := Run(f, nil); len(got) != 0 {
			t.Errorf("Run(%s) of no entries = %d", told(f), got)
		}
		if got := Run(f, []api.Entry{}); len(got) != 0 {
			t.Errorf("Run(%s) of no entries = %d", told(f), got)
		}
		if err, _ := filter.Check(f); err == api.OK {
			continue
		}
		if got := Run(f, []api.Entry{ann(), {}, ann()}); !slices.Equal(got, []api.Truth{U, U, U}) {
			t.Errorf("Run(%s) = %d", told(f), got)
		}
	}
}
