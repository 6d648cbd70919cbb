package filter

import (
	"math"
	"math/rand"
	"testing"

	"roster/api"
)

func holdCheck(t *testing.T, f api.Filter, err api.Errno, number int) {
	t.Helper()
	if gotErr, got := Check(f); gotErr != err || got != number {
		t.Errorf("Check(%s) = %d, %d, want %d, %d", told(f), gotErr, got, err, number)
	}
}

// P12.1: the chapter's examples, and one list for each of its rules.
func TestCheck(t *testing.T) {
	for _, x := range []struct {
		f      api.Filter
		err    api.Errno
		number int
	}{
		{list(eq(1, "no desc", "x")), api.OK, 0},
		{list(op(1, api.Not)), api.ErrFilter, 0},
		{list(op(1, api.Not), op(2, api.And), op(2, api.Or)), api.ErrFilter, 2},
		{list(op(1, api.And), op(3, api.Or)), api.ErrFilter, 1},
		{list(has(1, "cn"), has(2, "sn")), api.ErrFilter, 1},
		{list(with(1, api.And, "cn", "")), api.ErrFilter, 0},
		{list(ext(1, "", "", "x", false)), api.ErrFilter, 0},

		{nil, api.ErrFilter, 0}, {api.Filter{}, api.ErrFilter, 0},
		{list(op(1, api.And)), api.OK, 0}, {list(op(1, api.Or)), api.OK, 0},
		{list(op(0, api.And)), api.ErrFilter, 0}, {list(op(2, api.And)), api.ErrFilter, 0},
		{list(op(1, api.And), op(1, api.And)), api.ErrFilter, 1}, // a second outermost one
		{list(op(1, api.And), op(0, api.And)), api.ErrFilter, 1},
		{list(op(1, api.And), has(2, "a"), op(2, api.Or), has(3, "b"), has(2, "c")), api.OK, 0},
		{list(op(1, api.And), has(2, "a"), has(3, "b")), api.ErrFilter, 2},
		{list(op(1, api.Not), op(2, api.And), has(3, "a"), has(3, "b")), api.OK, 0},
		{list(op(1, api.Not), op(2, api.And), has(3, "a"), has(2, "b")), api.ErrFilter, 3},
		{list(op(1, api.Not), op(2, api.Not), has(3, "a"), has(3, "b")), api.ErrFilter, 3},
		{list(op(1, api.Not), op(2, api.Not), has(3, "a"), has(2, "b")), api.ErrFilter, 3},
		{list(op(1, api.And), op(2, api.Not), has(3, "a"), op(2, api.Not), has(3, "b")), api.OK, 0},
		{list(op(1, api.And), op(2, api.Not), has(2, "a")), api.ErrFilter, 1},
		{list(op(1, api.Not), op(3, api.And)), api.ErrFilter, 0}, // the Not, ahead of the node that follows it wrongly
		{list(op(1, 10)), api.ErrFilter, 0}, {list(op(1, -1)), api.ErrFilter, 0},
		{list(op(1, api.And), op(2, 10), op(9, 10)), api.ErrFilter, 1}, // the first
	} {
		holdCheck(t, x.f, x.err, x.number)
	}
}

// P12.1: every Op with every choice of fields, in the first node and beneath one.
func TestCheckFields(t *testing.T) {
	lists := [][]string{nil, {}, {"a"}, {""}, {"a", ""}, {"\xff"}}
	for o := api.FilterOp(-1); o <= 11; o++ {
		for _, desc := range []string{"", "cn", "no desc", "\xff", "a\xc3"} {
			for _, value := range []string{"", "x", "\xff"} {
				for _, ends := range []string{"", "i", "f", "if"} {
					for _, between := range lists {
						for _, rule := range []string{"", "r", "dn", "\xed\xa0\x80"} {
							for _, names := range []bool{false, true} {
								n := api.FilterNode{Depth: 1, Op: o, Desc: desc, Value: value, Rule: rule, DNAttrs: names}
								n.Parts = patternOf(ends, between)
								holdFields(t, n)
							}
						}
					}
				}
			}
		}
	}
}

func patternOf(ends string, between []string) api.Pattern {
	p := api.Pattern{Any: between}
	for _, end := range ends {
		if end == 'i' {
			p.Initial = "x"
		} else {
			p.Final = "\xff"
		}
	}
	return p
}

func holdFields(t *testing.T, n api.FilterNode) {
	t.Helper()
	err, number := slowCheck(list(n))
	holdCheck(t, list(n), err, number)
	n.Depth = 2
	err, number = slowCheck(list(op(1, api.Or), n))
	holdCheck(t, list(op(1, api.Or), n), err, number)
}

// P12.1: all short lists of some Depths and Ops.
func TestCheckTrees(t *testing.T) {
	var grow func(f api.Filter)
	grow = func(f api.Filter) {
		err, number := slowCheck(f)
		holdCheck(t, f, err, number)
		if len(f) == 5 {
			return
		}
		for depth := 0; depth <= 4; depth++ {
			for _, o := range []api.FilterOp{api.And, api.Not, api.Present} {
				next := list(append(append(api.Filter{}, f...), op(depth, o))...)
				// What stands behind a first fault is never asked: one more node is enough.
				if err == api.ErrFilter && number+1 < len(f) {
					continue
				}
				grow(next)
			}
		}
	}
	grow(nil)
}

// P12.1: Depths at and above the limit, and those that no int is above or below.
func TestCheckDeep(t *testing.T) {
	for _, o := range []api.FilterOp{api.And, api.Or, api.Not} {
		holdCheck(t, append(chain(o, 63), has(64, "a")), api.OK, 0)
		holdCheck(t, append(chain(o, 64), has(65, "a")), api.ErrDeep, 64)
		holdCheck(t, append(chain(o, 64), op(65, 77)), api.ErrDeep, 64) // ahead of the Op
		holdCheck(t, append(chain(o, 63), op(64, 77), has(65, "a")), api.ErrFilter, 63)
		holdCheck(t, append(chain(o, 63), has(64, "a"), has(65, "a")), api.ErrFilter, 64) // ahead of the depth
		holdCheck(t, append(chain(o, 63), op(64, o), has(66, "a")), api.ErrFilter, map[bool]int{true: 63, false: 64}[o == api.Not])
	}
	holdCheck(t, chain(api.And, 64), api.OK, 0)
	holdCheck(t, chain(api.Not, 64), api.ErrFilter, 63)
	for _, depth := range []int{math.MinInt, -1, 0, 3, 65, 66, math.MaxInt} {
		holdCheck(t, list(op(depth, api.And)), api.ErrFilter, 0)
		holdCheck(t, list(op(1, api.And), op(depth, api.And)), api.ErrFilter, 1)
		holdCheck(t, list(op(1, api.Not), op(depth, api.And)), api.ErrFilter, 0)
	}
}

// P12.1: random filters, and what random changes make of them.
func TestCheckAgainstWords(t *testing.T) {
	r := rand.New(rand.NewSource(121))
	for range 3000 {
		f := someFilter(r)
		holdCheck(t, f, api.OK, 0)
		g := someList(r)
		err, number := slowCheck(g)
		holdCheck(t, g, err, number)
	}
}
