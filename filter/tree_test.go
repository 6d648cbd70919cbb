package filter

import (
	"math"
	"math/rand"
	"slices"
	"testing"

	"roster/api"
)

// P12.6: of any list.
func TestDepth(t *testing.T) {
	for _, x := range []struct {
		f    api.Filter
		want int
	}{
		{nil, 0}, {api.Filter{}, 0}, {list(op(0, 0)), 0}, {list(op(-3, 0)), 0}, {list(op(math.MinInt, 0), op(-1, 0)), 0},
		{list(has(1, "a")), 1}, {list(op(1, 0), op(7, 0), op(2, 9)), 7}, {list(op(math.MaxInt, 77), op(1, 0)), math.MaxInt}, {list(op(-1, 0), op(1, 0)), 1},
		{chain(api.Not, 64), 64}, {chain(api.Not, 65), 65}, {list(op(5, 0)), 5},
	} {
		if got := Depth(x.f); got != x.want {
			t.Errorf("Depth(%s) = %d, want %d", told(x.f), got, x.want)
		}
	}
}

func holdEqual(t *testing.T, f, g api.Filter, want bool) {
	t.Helper()
	if Equal(f, g) != want || Equal(g, f) != want {
		t.Errorf("Equal(%s, %s) is not %v", told(f), told(g), want)
	}
}

// P12.7: one field makes the difference, whichever it is and wherever it stands; nil and empty make none.
func TestEqual(t *testing.T) {
	whole := func() api.FilterNode {
		n := sub(3, "d", "i", []string{"a", "b"}, "f")
		n.Value, n.Rule, n.DNAttrs = "v", "r", true
		return n
	}
	for i, change := range []func(n *api.FilterNode){
		func(n *api.FilterNode) { n.Depth = 4 },
		func(n *api.FilterNode) { n.Op = api.Approx },
		func(n *api.FilterNode) { n.Desc = "D" },
		func(n *api.FilterNode) { n.Value = "" },
		func(n *api.FilterNode) { n.Parts.Initial = "I" },
		func(n *api.FilterNode) { n.Parts.Any[1] = "c" },
		func(n *api.FilterNode) { n.Parts.Any = []string{"a"} },
		func(n *api.FilterNode) { n.Parts.Any = []string{"a", "b", ""} },
		func(n *api.FilterNode) { n.Parts.Any = []string{"b", "a"} },
		func(n *api.FilterNode) { n.Parts.Any = []string{"ab"} },
		func(n *api.FilterNode) { n.Parts.Any = nil },
		func(n *api.FilterNode) { n.Parts.Final = "" },
		func(n *api.FilterNode) { n.Rule = "R" },
		func(n *api.FilterNode) { n.DNAttrs = false },
	} {
		other := whole()
		change(&other)
		if Equal(list(whole()), list(other)) {
			t.Errorf("the change %d makes no difference", i)
		}
		holdEqual(t, list(op(1, 0), whole(), op(-1, 77)), list(op(1, 0), other, op(-1, 77)), false)
	}
	holdEqual(t, list(whole(), op(-9, 77)), list(whole(), op(-9, 77)), true)
	holdEqual(t, nil, api.Filter{}, true)
	holdEqual(t, nil, list(op(0, 0)), false)
	holdEqual(t, list(op(1, 0), has(2, "a")), list(op(1, 0)), false)
	holdEqual(t, list(sub(1, "a", "x", nil, "")), list(sub(1, "a", "x", []string{}, "")), true)
	holdEqual(t, list(sub(1, "a", "x", nil, "")), list(sub(1, "a", "x", []string{""}, "")), false)
	r := rand.New(rand.NewSource(127))
	for range 3000 {
		f, g := someList(r), someList(r)
		holdEqual(t, f, g, told(f) == told(g))
		holdEqual(t, f, moved(f, 0), true)
	}
}

// P12.8: the chapter's examples, and the order of what it refuses.
func TestGroup(t *testing.T) {
	a, b, none := list(has(1, "a")), list(op(1, api.Not), has(2, "b")), list(op(1, api.Not))
	deep, deeper := chain(api.And, 64), chain(api.And, 65)
	for i, x := range []struct {
		op   api.FilterOp
		fs   []api.Filter
		want api.Filter
		err  api.Errno
	}{
		{api.Not, []api.Filter{list(has(1, "cn"))}, list(op(1, api.Not), has(2, "cn")), api.OK},
		{api.And, nil, list(op(1, api.And)), api.OK}, {api.Or, []api.Filter{}, list(op(1, api.Or)), api.OK},
		{api.Or, []api.Filter{a, b, a}, list(op(1, api.Or), has(2, "a"), op(2, api.Not), has(3, "b"), has(2, "a")), api.OK},
		{api.Not, []api.Filter{b}, list(op(1, api.Not), op(2, api.Not), has(3, "b")), api.OK},
		{api.And, []api.Filter{deep[:63]}, deep, api.OK},

		{api.Equality, []api.Filter{a}, nil, api.ErrArg}, {api.Equality, nil, nil, api.ErrArg}, {api.Present, nil, nil, api.ErrArg}, {api.Extensible, []api.Filter{none}, nil, api.ErrArg}, {-1, nil, nil, api.ErrArg}, {10, []api.Filter{deeper}, nil, api.ErrArg}, {math.MinInt, nil, nil, api.ErrArg}, {math.MaxInt, nil, nil, api.ErrArg},
		{api.Not, nil, nil, api.ErrArg}, {api.Not, []api.Filter{a, b}, nil, api.ErrArg}, {api.Not, []api.Filter{none, none}, nil, api.ErrArg}, {api.Not, []api.Filter{deep, deeper}, nil, api.ErrArg},
		{api.Not, []api.Filter{none}, nil, api.ErrFilter}, {api.And, []api.Filter{nil}, nil, api.ErrFilter}, {api.Not, []api.Filter{nil}, nil, api.ErrFilter}, {api.And, []api.Filter{a, {}, deeper}, nil, api.ErrFilter}, {api.Or, []api.Filter{a, deeper, none}, nil, api.ErrDeep}, {api.Or, []api.Filter{none, deeper}, nil, api.ErrFilter},
		{api.Or, []api.Filter{deep, none}, nil, api.ErrFilter}, {api.And, []api.Filter{deep, nil}, nil, api.ErrFilter}, // what is no filter, ahead of the depth
		{api.And, []api.Filter{deep}, nil, api.ErrDeep}, {api.Not, []api.Filter{deep}, nil, api.ErrDeep}, {api.Or, []api.Filter{a, deep, b}, nil, api.ErrDeep}, {api.Or, []api.Filter{append(slices.Clone(deep), has(2, "a"))}, nil, api.ErrDeep},
	} {
		got, err := Group(x.op, x.fs...)
		if err != x.err || x.err != api.OK && got != nil {
			t.Errorf("Group number %d = %s, %d, want %d", i, told(got), err, x.err)
		}
		hold(t, "Group", got, x.want)
	}
}

func kidsOf(f api.Filter) []api.Filter {
	var out []api.Filter
	for kid := range Kids(f) {
		out = append(out, kid)
	}
	return out
}

func slowKids(f api.Filter) []api.Filter {
	if err, _ := slowCheck(f); err != api.OK {
		return nil
	}
	var out []api.Filter
	for _, kid := range slowTree(f).kids {
		out = append(out, slowList(kid, 1))
	}
	return out
}

func toldAll(fs []api.Filter) string {
	out := ""
	for _, f := range fs {
		out += told(f) + "\n"
	}
	return out
}

// P12.9: the chapter's example, and lists that have no kid.
func TestKids(t *testing.T) {
	for _, x := range []struct {
		f    api.Filter
		want []api.Filter
	}{
		{list(op(1, api.Or), op(2, api.Not), has(3, "a"), has(2, "b")), []api.Filter{list(op(1, api.Not), has(2, "a")), list(has(1, "b"))}},
		{list(op(1, api.Not), op(2, api.And), has(3, "a"), op(3, api.Or), has(4, "b")), []api.Filter{list(op(1, api.And), has(2, "a"), op(2, api.Or), has(3, "b"))}},
		{list(op(1, api.And), op(2, api.Or), op(2, api.Or)), []api.Filter{list(op(1, api.Or)), list(op(1, api.Or))}},
		{chain(api.And, 64), []api.Filter{chain(api.And, 63)}},
		{nil, nil}, {api.Filter{}, nil}, {list(op(1, api.And)), nil}, {list(op(1, api.Or)), nil},
		{list(has(1, "a")), nil}, {list(eq(1, "a", "b")), nil}, {list(sub(1, "a", "b", nil, "")), nil}, {list(ext(1, "a", "b", "", true)), nil},
		{list(op(1, api.Not)), nil}, {list(op(1, api.Not), has(2, "a"), has(2, "b")), nil}, {list(op(1, api.And), has(2, "a"), op(2, 10)), nil}, {list(op(2, api.And), has(3, "a")), nil}, {list(has(1, "a"), has(2, "b")), nil}, {chain(api.And, 65), nil}, {list(op(1, 10), has(2, "a")), nil},
	} {
		if got, want := toldAll(kidsOf(x.f)), toldAll(x.want); got != want {
			t.Errorf("Kids(%s) gives\n%swant\n%s", told(x.f), got, want)
		}
	}
}

// P12.9: each kid is a filter, and Group gives the whole back.
func TestKidsGrouped(t *testing.T) {
	r := rand.New(rand.NewSource(128))
	for range 3000 {
		f := someFilter(r)
		kids := kidsOf(f)
		if got, want := toldAll(kids), toldAll(slowKids(f)); got != want {
			t.Fatalf("Kids(%s) gives\n%swant\n%s", told(f), got, want)
		}
		for _, kid := range kids {
			holdCheck(t, kid, api.OK, 0)
		}
		if asks[f[0].Op] == "" {
			g, err := Group(f[0].Op, kids...)
			if err != api.OK {
				t.Errorf("Group of the kids of %s: %d", told(f), err)
			}
			hold(t, "Group of Kids", g, f)
		}
		g := someList(r)
		if got, want := toldAll(kidsOf(g)), toldAll(slowKids(g)); got != want {
			t.Fatalf("Kids(%s) gives\n%swant\n%s", told(g), got, want)
		}
	}
}

// P12.9, P0.1: stopped behind any kid, ranged over again, and inside a ranging over it.
func TestKidsStopped(t *testing.T) {
	f := list(op(1, api.And), op(2, api.Not), has(3, "a"), has(2, "b"), sub(2, "c", "", []string{"x"}, ""), op(2, api.Or), op(3, api.Or), has(4, "d"))
	want := slowKids(f)
	all := Kids(f)
	for stop := range want {
		var got []api.Filter
		all(func(kid api.Filter) bool {
			got = append(got, kid)
			return len(got) <= stop
		})
		if toldAll(got) != toldAll(want[:stop+1]) {
			t.Errorf("stopped at its kid %d it gives\n%s", stop, toldAll(got))
		}
	}
	number := 0
	for kid := range all {
		hold(t, "a kid", kid, want[number])
		inner := 0
		for other := range all {
			hold(t, "a kid inside", other, want[inner])
			other[0].Desc = "spoilt"
			if inner++; inner > number {
				break
			}
		}
		hold(t, "a kid, when others were given", kid, want[number])
		number++
	}
	if number != len(want) {
		t.Errorf("ranged over with others inside, it gives %d kids, want %d", number, len(want))
	}
}

// P12.9: a panic of the one who ranges is his own.
func TestKidsLeavesOthersPanics(t *testing.T) {
	for _, mine := range []any{"mine", fault{api.ErrFilter, 0}} {
		func() {
			defer func() {
				if r := recover(); r != mine {
					t.Errorf("a panic with %v came out as %v", mine, r)
				}
			}()
			for range Kids(list(op(1, api.Not), has(2, "a"))) {
				panic(mine)
			}
		}()
	}
}

// What is no fault of a reader's is never taken for one.
func TestCaughtLeavesOthersPanics(t *testing.T) {
	defer func() {
		if recover() != "other" {
			t.Error("another panic was taken for a fault")
		}
	}()
	caught(func() { panic("other") })
}

// P12.10: the chapter's examples, and each of its rules.
func TestPush(t *testing.T) {
	for s, want := range map[string]string{
		"(!(&(a=b)(!(c=*))))": "(|(!(a=b))(c=*))", "(!(&))": "(|)", "(!(|))": "(&)", "(&)": "(&)", "(|)": "(|)",
		"(a=b)": "(a=b)", "(!(a=b))": "(!(a=b))", "(!(!(a=b)))": "(a=b)", "(!(!(!(a=b))))": "(!(a=b))", "(!(!(!(!(a=b)))))": "(a=b)",
		"(&(a=b)(|(c=d)))": "(&(a=b)(|(c=d)))", "(!(|(a=b)(c=d)))": "(&(!(a=b))(!(c=d)))", "(!(!(|(a=b)(c=d))))": "(|(a=b)(c=d))",
		"(&(!(|(a=b)(c=d)))(!(e=f)))": "(&(&(!(a=b))(!(c=d)))(!(e=f)))", "(!(|(&(a=b))(!(|))))": "(&(|(!(a=b)))(|))",
		"(|(!(&(a=*)(!(b=x*))))(c:=d)(!(!(e~=f))))": "(|(|(!(a=*))(b=x*))(c:=d)(e~=f))",
		"(!(&(!(a=b))(c=d)(!(!(e=f)))))":            "(|(a=b)(!(c=d))(!(e=f)))",
	} {
		f, _, _ := Parse(s)
		g, err := Push(f)
		if err != api.OK {
			t.Errorf("Push of %s: %d", s, err)
		}
		if got, _ := Print(g); got != want {
			t.Errorf("Push of %s is %s, want %s", s, got, want)
		}
	}
	for _, f := range []api.Filter{nil, {}, list(op(1, api.Not)), list(op(1, 10)), list(op(1, api.And), has(3, "a"))} {
		if g, err := Push(f); g != nil || err != api.ErrFilter {
			t.Errorf("Push(%s) = %s, %d", told(f), told(g), err)
		}
	}
	if g, err := Push(chain(api.And, 65)); g != nil || err != api.ErrDeep {
		t.Errorf("Push of 65 deep = %s, %d", told(g), err)
	}
}

// worth is a filter's value in Kleene's logic, 0 False, 1 Undefined, 2 True, where items have theirs by this.
func worth(t tree, item func(api.FilterNode) int) int {
	var values []int
	for _, kid := range t.kids {
		values = append(values, worth(kid, item))
	}
	switch t.node.Op {
	case api.And:
		return slices.Min(append(values, 2))
	case api.Or:
		return slices.Max(append(values, 0))
	case api.Not:
		return 2 - values[0]
	}
	return item(t.node)
}

// P12.10: Push is a filter, not deeper, with a Not over items alone; it means the same; pushed again it stays. It doesn't ask for descriptions.
func TestPushAgainstWords(t *testing.T) {
	r := rand.New(rand.NewSource(129))
	for range 3000 {
		f := someFilter(r)
		if r.Intn(2) == 0 { // more Nots
			f = slowList(tree{op(0, api.Not), []tree{slowTree(f)}}, 1)
		}
		for i := range f {
			if f[i].Op == api.Equality {
				f[i].Desc = pick(r, "", "no desc", "cn")
			}
		}
		g, err := Push(f)
		if err != api.OK {
			t.Fatalf("Push(%s): %d", told(f), err)
		}
		hold(t, "Push", g, slowList(slowPush(slowTree(f), false), 1))
		holdCheck(t, g, api.OK, 0)
		if Depth(g) > Depth(f) {
			t.Errorf("Push(%s) is deeper", told(f))
		}
		for i, n := range g {
			if n.Op == api.Not && asks[g[i+1].Op] == "" {
				t.Errorf("Push(%s) = %s", told(f), told(g))
			}
		}
		seed := r.Intn(1000)
		item := func(n api.FilterNode) int {
			n.Depth = seed
			sum := 0
			for _, b := range []byte(told(list(n))) {
				sum = (sum*31 + int(b)) % 10007
			}
			return sum % 3
		}
		if a, b := worth(slowTree(f), item), worth(slowTree(g), item); a != b {
			t.Errorf("Push(%s) is worth %d, want %d", told(f), b, a)
		}
		again, _ := Push(g)
		hold(t, "Push of Push", again, g)
	}
}

// P12.10: as deep as may be.
func TestPushDeep(t *testing.T) {
	for many := 60; many <= 63; many++ {
		f := append(chain(api.Not, many), has(many+1, "a"))
		want := list(has(1, "a"))
		if many%2 == 1 {
			want = list(op(1, api.Not), has(2, "a"))
		}
		g, err := Push(f)
		if err != api.OK {
			t.Errorf("Push of %d Nots: %d", many, err)
		}
		hold(t, "Push", g, want)
		f = append(chain(api.And, many), has(many+1, "a"))
		f[0].Op = api.Not
		want = slowList(slowPush(slowTree(f), false), 1)
		g, _ = Push(f)
		hold(t, "Push", g, want)
	}
}
