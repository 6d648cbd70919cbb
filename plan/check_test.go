package plan

import (
	"math"
	"slices"
	"testing"

	"roster/api"
	"roster/index"
)

func at1(o api.PlanOp) api.Step { return api.Step{Depth: 1, Op: o} }

// P15.2, P15.3: lists that are no plan, for each point of the chapter's words.
func TestNoPlans(t *testing.T) {
	x := index.Build(three())
	step := func(depth int, o api.PlanOp) api.Step { return api.Step{Depth: depth, Op: o} }
	for _, steps := range [][]api.Step{
		nil, {},
		// Depths.
		{step(0, 0)}, {step(2, 0)}, {step(-1, 0)}, {step(math.MaxInt, 0)}, {step(math.MinInt, 0)},
		{step(1, 0), step(1, 0)}, {at1(api.PlanMeet), step(1, 0)}, {at1(api.PlanMeet), step(0, 0)}, {at1(api.PlanMeet), step(-1, 0)}, {at1(api.PlanMeet), step(3, 0)}, {at1(api.PlanMeet), step(math.MaxInt, 0)}, {at1(api.PlanMeet), step(math.MinInt, 0)},
		{at1(api.PlanMeet), step(2, 0), step(3, 0)}, {at1(api.PlanMeet), step(2, api.PlanMeet), step(4, 0)}, {at1(api.PlanMeet), step(2, 0), step(1, 0)}, {at1(api.PlanJoin), step(2, api.PlanJoin), step(3, 0), step(1, 0)},
		// Kids of what has none.
		{at1(api.PlanAll), step(2, 0)}, {at1(api.PlanNone), step(2, 0)}, {at1(api.PlanValue), step(2, 0)}, {at1(api.PlanHas), step(2, 0)}, {{Depth: 1, Op: api.PlanGrams, Grams: []string{"abc"}}, step(2, 0)}, {at1(api.PlanFrom), step(2, 0)}, {at1(api.PlanUpTo), step(2, 0)},
		// Ops.
		{at1(10)}, {at1(-1)}, {at1(math.MaxInt)}, {at1(math.MinInt)}, {at1(api.PlanMeet), step(2, 10)}, {at1(api.PlanMeet), step(2, 0), step(2, -1)}, {at1(10), step(2, 0)},
		// Kids of PlanRest.
		{at1(api.PlanRest)}, {at1(api.PlanRest), step(2, 0), step(2, 0)}, {at1(api.PlanRest), step(2, api.PlanRest)}, {at1(api.PlanRest), step(2, api.PlanMeet), step(3, 0), step(2, 0)}, {at1(api.PlanMeet), step(2, api.PlanRest)}, {at1(api.PlanMeet), step(2, api.PlanRest), step(2, 0)}, {at1(api.PlanMeet), step(2, api.PlanRest), step(3, 0), step(3, 0)}, {at1(api.PlanMeet), step(2, api.PlanRest), step(3, 0), step(2, api.PlanRest)},
		// Lists without a member where one must be.
		{{Depth: 1, Op: api.PlanGrams, Desc: "cn"}}, {{Depth: 1, Op: api.PlanGrams, Desc: "cn", Grams: []string{}}},
	} {
		if slowIsPlan(steps) {
			t.Errorf("the slow answer takes %s", listed(steps))
		}
		holdRefused(t, steps, x)
	}
}

// P15.2, P15.3: which fields may stand in which Op, first and beneath another.
func TestFields(t *testing.T) {
	x, taken := index.Build(three()), 0
	for o := api.PlanAll; o <= api.PlanUpTo; o++ {
		for _, desc := range []string{"", "cn", "c n", " "} {
			for _, text := range []string{"", "x", "\x00"} {
				for _, grams := range [][]string{nil, {}, {""}, {"abc"}, {"ab", "ab"}} {
					steps := []api.Step{{Depth: 1, Op: o, Desc: desc, Text: text, Grams: grams}}
					if o == api.PlanRest {
						steps = append(steps, api.Step{Depth: 2})
					}
					holdSteps(t, steps, x, three())
					if slowIsPlan(steps) {
						taken++
					}
					beneath := []api.Step{at1(api.PlanJoin)}
					for _, s := range steps {
						s.Depth++
						beneath = append(beneath, s)
					}
					holdSteps(t, beneath, x, three())
				}
			}
		}
	}
	// PlanAll, PlanNone, PlanMeet, PlanJoin and PlanRest once for each empty list; the others as often as there are such fields.
	if want := 5*2 + 3*(4*3*2) + 4*2 + 4*3; taken != want {
		t.Errorf("%d are plans, want %d", taken, want)
	}
}

// P15.2, P15.3: plans as deep as may be, and one deeper.
func TestDeepPlans(t *testing.T) {
	x := index.Build(three())
	for _, o := range []api.PlanOp{api.PlanMeet, api.PlanJoin, api.PlanRest} {
		for _, last := range []knot{tie(api.PlanAll), tieText(api.PlanHas, "cn", ""), tie(api.PlanMeet)} {
			k := last
			for depth := 1; depth <= 2*api.MaxFilter; depth++ {
				holdSteps(t, k.list(), x, three())
				k = tie(o, k)
			}
			holdRefused(t, k.list(), x)
			holdRefused(t, tie(api.PlanMeet, tie(api.PlanAll), k).list(), x)
		}
	}
	// A list that goes down and up again, with kids on every depth.
	k := tieText(api.PlanHas, "sn", "")
	for depth := 1; depth+2 <= 2*api.MaxFilter; depth += 2 {
		k = tie(api.PlanMeet+api.PlanOp(depth/2%2), tieText(api.PlanValue, "cn", "x"), tie(api.PlanRest, k), tieText(api.PlanHas, "cn", ""))
	}
	holdSteps(t, k.list(), x, three())
	if steps := k.list(); !slices.ContainsFunc(steps, func(s api.Step) bool { return s.Depth == 2*api.MaxFilter-1 }) {
		t.Error("it isn't deep")
	}
}

// P15.2, P15.3: all short lists, plans or not.
func TestAllShortLists(t *testing.T) {
	entries := three()
	x := index.Build(entries)
	lists := [][]api.Step{nil}
	plans := 0
	for range 4 {
		var longer [][]api.Step
		for _, steps := range lists {
			for _, s := range []api.Step{{Op: api.PlanMeet}, {Op: api.PlanJoin}, {Op: api.PlanRest}, {Op: api.PlanNone}, {Op: api.PlanHas, Desc: "cn"}} {
				for depth := range 5 {
					s.Depth = depth
					longer = append(longer, append(slices.Clone(steps), s))
				}
			}
		}
		lists = longer
		for _, steps := range longer {
			holdSteps(t, steps, x, entries)
			if slowIsPlan(steps) {
				plans++
			}
		}
	}
	if plans < 500 {
		t.Errorf("only %d plans", plans)
	}
}
