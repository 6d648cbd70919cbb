package eval

import (
	"slices"
	"testing"

	"roster/api"
	"roster/filter"
)

// Items whose value on the chapter's entry is in their name.
var (
	yes  = has(1, "cn")
	no   = has(1, "sn")
	open = has(1, "x-odd")
)

// P14.3: the chapter's examples, And and Or of nothing, of one and of several, Not of each.
func TestValueExamples(t *testing.T) {
	for _, c := range []struct {
		f    api.Filter
		want api.Truth
	}{
		{nil, U}, {list(), U}, {list(op(1, api.And)), T}, {list(op(1, api.Or)), F}, {list(op(1, api.Not)), U},
		{list(yes), T}, {list(no), F}, {list(open), U},
		{under(api.And, list(yes)), T}, {under(api.And, list(no)), F}, {under(api.And, list(open)), U},
		{under(api.Or, list(yes)), T}, {under(api.Or, list(no)), F}, {under(api.Or, list(open)), U},
		{under(api.Not, list(yes)), F}, {under(api.Not, list(no)), T}, {under(api.Not, list(open)), U},
		{under(api.And, list(yes), list(open)), U}, {under(api.And, list(open), list(yes)), U}, {under(api.And, list(yes), list(open), list(no)), F}, {under(api.And, list(open), list(no), list(yes)), F}, {under(api.And, list(yes), list(yes)), T},
		{under(api.Or, list(no), list(open)), U}, {under(api.Or, list(open), list(no)), U}, {under(api.Or, list(no), list(open), list(yes)), T}, {under(api.Or, list(open), list(yes), list(no)), T}, {under(api.Or, list(no), list(no)), F},
		{under(api.Not, under(api.Not, list(yes))), T}, {under(api.Not, under(api.Not, list(open))), U}, {under(api.Not, under(api.And)), F}, {under(api.Not, under(api.Or)), T},
		{under(api.And, under(api.And), under(api.Or)), F}, {under(api.Or, under(api.And), under(api.Or)), T}, {under(api.Or, under(api.Not, list(open)), list(no)), U},
		{under(api.And, under(api.Or, list(no), list(yes)), under(api.Not, under(api.And, list(open), list(no)))), T},
	} {
		holdValue(t, c.f, ann(), c.want)
		if got := slowValue(c.f, ann()); got != c.want {
			t.Errorf("the slow answer to %s is %d", told(c.f), got)
		}
	}
}

// P14.3: lists that are no filter are Undefined, whatever their first node is worth.
func TestListsThatAreNoFilter(t *testing.T) {
	long := chain(api.Not, api.MaxFilter, yes)
	for _, f := range []api.Filter{
		nil, {}, deeper(list(yes), 1), deeper(list(yes), -1), list(yes, yes), list(yes, has(2, "cn")),
		list(op(1, api.And), has(3, "cn")), list(op(1, api.And), has(2, "cn"), has(3, "cn")), list(op(1, api.And), has(2, "cn"), has(1, "cn")), list(op(1, api.And), has(2, "cn"), has(0, "cn")),
		list(op(1, api.Not)), list(op(1, api.Not), has(2, "sn"), has(2, "sn")), list(op(1, api.Or), has(2, "cn"), op(2, api.Not)), list(op(1, api.Or), has(2, "cn"), op(2, api.Not), has(2, "sn")),
		list(op(1, 10)), list(op(1, -1)), list(op(1, api.Or), has(2, "cn"), op(2, 99)),
		list(with(1, api.And, "cn", "")), list(with(1, api.Present, "cn", "x")), list(api.FilterNode{Depth: 1, Op: api.Equality, Desc: "cn", Value: "Ann", DNAttrs: true}), list(api.FilterNode{Depth: 1, Op: api.Equality, Desc: "cn", Value: "Ann", Rule: "caseIgnoreMatch"}),
		list(op(1, api.Or), has(2, "cn"), sub(2, "cn", "a", []string{""}, "")), list(op(1, api.Or), has(2, "cn"), sub(2, "cn", "", nil, "")), list(op(1, api.Or), has(2, "cn"), ext(2, "", "", "x", true)), list(op(1, api.Or), has(2, "cn"), has(2, "\xff")),
		long, under(api.Or, list(yes), chain(api.And, api.MaxFilter-1, yes)),
	} {
		holdValue(t, f, ann(), U)
		holdValue(t, f, api.Entry{}, U)
	}
}

// P14.3: an item in a filter is worth what Item tells of it.
func TestFiltersOfOneItem(t *testing.T) {
	m := newMaker(143)
	for range 5000 {
		n, e := m.item(), m.entry()
		want := Item(n, e)
		holdValue(t, list(n), e, want)
		holdValue(t, under(api.Not, list(n)), e, slowNot(want))
	}
}

// grown are all trees of at most so many nodes that are made of three items, And, Or and Not, a list each.
func grown(most int) []api.Filter {
	bySize := make([][]api.Filter, most+1)
	for size := 1; size <= most; size++ {
		if size == 1 {
			bySize[1] = []api.Filter{list(yes), list(no), list(open)}
		} else {
			for _, f := range bySize[size-1] {
				bySize[size] = append(bySize[size], under(api.Not, f))
			}
		}
		for _, kids := range rows(bySize, size-1) {
			bySize[size] = append(bySize[size], under(api.And, kids...), under(api.Or, kids...))
		}
	}
	return slices.Concat(bySize...)
}

// rows are all rows of trees with so many nodes in all.
func rows(bySize [][]api.Filter, size int) [][]api.Filter {
	if size == 0 {
		return [][]api.Filter{nil}
	}
	var out [][]api.Filter
	for first := 1; first <= size; first++ {
		for _, behind := range rows(bySize, size-first) {
			for _, f := range bySize[first] {
				out = append(out, append([]api.Filter{f}, behind...))
			}
		}
	}
	return out
}

// P14.3, P14.4, P14.5: all small filters.
func TestAllSmallFilters(t *testing.T) {
	all := grown(5)
	for _, f := range all {
		want := slowValue(f, ann())
		holdValue(t, f, ann(), want)
		test, err := Compile(f)
		if err != api.OK || test.On(ann()) != want {
			t.Errorf("Compile(%s): %d", told(f), err)
		}
	}
	if len(all) < 1000 {
		t.Errorf("only %d filters", len(all))
	}
}

// P14.3, P14.4: all short lists, filters or not.
func TestAllShortLists(t *testing.T) {
	nodes := []api.FilterNode{op(0, api.And), op(0, api.Or), op(0, api.Not), yes, no, open, op(0, 10)}
	lists := []api.Filter{nil}
	for range 3 {
		var longer []api.Filter
		for _, f := range lists {
			for _, n := range nodes {
				for depth := range 4 {
					n.Depth = depth
					longer = append(longer, append(slices.Clone(f), n))
				}
			}
		}
		for _, f := range longer {
			holdValue(t, f, ann(), slowValue(f, ann()))
			holdCompile(t, f, ann())
		}
		lists = longer
	}
}

// P14.3: filters as deep as may be, and one deeper.
func TestDeepFilters(t *testing.T) {
	for _, c := range []struct {
		n    api.FilterNode
		want api.Truth
	}{{yes, T}, {no, F}, {open, U}, {op(1, api.And), T}, {op(1, api.Or), F}} {
		for many := range api.MaxFilter {
			turned := c.want
			if many%2 == 1 {
				turned = slowNot(turned)
			}
			holdValue(t, chain(api.Not, many, c.n), ann(), turned)
			holdValue(t, chain(api.And, many, c.n), ann(), c.want)
			holdValue(t, chain(api.Or, many, c.n), ann(), c.want)
		}
		for _, o := range []api.FilterOp{api.And, api.Or, api.Not} {
			holdValue(t, chain(o, api.MaxFilter, c.n), ann(), U)
		}
	}
	// Kids on every depth, ahead of the deep one and behind it.
	f, g := list(yes), list(no)
	for range api.MaxFilter/2 - 1 {
		f = under(api.And, list(yes), under(api.Or, list(no), f, list(no)), list(yes))
		g = under(api.Or, list(no), under(api.And, list(yes), g, list(yes)), list(no))
	}
	holdValue(t, f, ann(), T)
	holdValue(t, g, ann(), F)
	if filter.Depth(f) != api.MaxFilter-1 {
		t.Errorf("a depth of %d", filter.Depth(f))
	}
}

// P14.3: wide filters, with the kid that decides at each end.
func TestWideFilters(t *testing.T) {
	for _, c := range []struct {
		o            api.FilterOp
		others, last api.FilterNode
		most, one    api.Truth
	}{{api.And, yes, no, T, F}, {api.And, yes, open, T, U}, {api.Or, no, yes, F, T}, {api.Or, no, open, F, U}, {api.And, open, no, U, F}, {api.Or, open, yes, U, T}} {
		f := list(op(1, c.o))
		for range 1000 {
			f = append(f, deeper(list(c.others), 1)...)
		}
		holdValue(t, f, ann(), c.most)
		for _, place := range []int{1, 500, 1000} {
			g := slices.Clone(f)
			g[place] = deeper(list(c.last), 1)[0]
			holdValue(t, g, ann(), c.one)
		}
	}
}

// P14.3: filters by chance; and what layer 12 says of Push: it means the same.
func TestFiltersAtRandom(t *testing.T) {
	m := newMaker(144)
	for range 3000 {
		f, e := m.filter(1+m.Intn(6)), m.entry()
		want := slowValue(f, e)
		holdValue(t, f, e, want)
		pushed, err := filter.Push(f)
		if err != api.OK {
			t.Fatalf("%s is no filter", told(f))
		}
		holdValue(t, pushed, e, want)
	}
}

// P14.3: filters as people write them, on the chapter's entry.
func TestFiltersOfTexts(t *testing.T) {
	for s, want := range map[string]api.Truth{
		"(&(objectClass=person)(cn=a*)(!(sn=*)))":               T,
		"(|(uidNumber>=8)(mail=*)(sn~=lee))":                    F,
		"(!(x-odd=1))":                                          U,
		"(|(x-odd=1)(cn:dn:=ann))":                              T,
		"(&(ou:dn:caseExactMatch:=Sales)(:dn:wordMatch:=x))":    T,
		"(&(2.5.4.11:dn:=Sales)(:2.5.13.5:=ann))":               F,
		"(!(&(uidNumber<=7)(uidNumber>=7)))":                    F,
		"(&(name=*N*)(!(|(name=*b*)(:nope:=1))))":               U,
		"(&(cn=\\41nn)(!(ou:=sales))(|(&(sn=)(cn=b))(!(l=*))))": T,
	} {
		f, err, _ := filter.Parse(s)
		if err != api.OK {
			t.Fatalf("%s is no filter's text", s)
		}
		holdValue(t, f, ann(), want)
	}
}
