package plan

import (
	"slices"
	"testing"

	"roster/api"
	"roster/index"
)

// holdTidy holds Tidy to a text, and to what follows from the promise.
func holdTidy(t *testing.T, in, want string) {
	t.Helper()
	got, err := Tidy(planOf(in))
	if err != api.OK || !sameList(got, planOf(want)) {
		t.Errorf("Tidy(%s) = %s, %d, want %s", in, listed(got), err, want)
	}
	if slow := slowShow(slowTidy(knotOf(planOf(in)))); slow != want {
		t.Errorf("the slow answer to %s is %s", in, slow)
	}
}

// P15.2: the chapter's examples.
func TestTidyExamples(t *testing.T) {
	for in, want := range map[string]string{
		"meet(value(cn,a),none)":                  "none",
		"join(rest(value(cn,a)),none)":            "rest(value(cn,a))",
		"meet()":                                  "all",
		"meet(has(cn),meet(all,has(cn),has(sn)))": "meet(has(cn),has(sn))",
		"rest(rest(has(cn)))":                     "has(cn)",
		"rest(join(none,meet(all)))":              "none",
		"join(has(a),has(b),has(a))":              "join(has(a),has(b))",
	} {
		holdTidy(t, in, want)
	}
}

// P15.2: steps without kids are themselves.
func TestTidyLeaves(t *testing.T) {
	for _, text := range []string{"all", "none", "value(,)", "value(cn,a)", "has()", "has(cn)", "grams(cn,abc)", "grams(,,)", "grams(cn,b,a,b)", "from(cn,a)", "from(,)", "upto(cn,a)", "upto(,)"} {
		holdTidy(t, text, text)
	}
}

// P15.2: PlanRest over all kinds of kids, once and again.
func TestTidyRest(t *testing.T) {
	for in, want := range map[string]string{
		"rest(all)": "none", "rest(none)": "all", "rest(rest(all))": "all", "rest(rest(none))": "none", "rest(rest(rest(none)))": "all",
		"rest(has(cn))": "rest(has(cn))", "rest(rest(rest(has(cn))))": "rest(has(cn))", "rest(rest(rest(rest(has(cn)))))": "has(cn)",
		"rest(meet())": "none", "rest(join())": "all", "rest(meet(has(cn)))": "rest(has(cn))", "rest(meet(rest(has(cn))))": "has(cn)", "rest(join(none,rest(meet(rest(has(cn))))))": "rest(has(cn))",
		"rest(rest(meet(has(a),has(b))))": "meet(has(a),has(b))", "rest(rest(rest(join(has(a),has(b)))))": "rest(join(has(a),has(b)))",
		"rest(grams(cn,abc))": "rest(grams(cn,abc))", "rest(rest(grams(cn,abc)))": "grams(cn,abc)",
	} {
		holdTidy(t, in, want)
	}
}

// P15.2: PlanMeet and PlanJoin of PlanAll, PlanNone, themselves, the same plan twice, deeper and less deep.
func TestTidyMeetAndJoin(t *testing.T) {
	for in, want := range map[string]string{
		// What decides, wherever it stands, and what changes nothing.
		"join()": "none", "meet(all)": "all", "meet(none)": "none", "join(all)": "all", "join(none)": "none", "meet(all,all)": "all", "join(none,none)": "none", "meet(all,none)": "none", "join(none,all)": "all",
		"meet(has(a),none,has(b))": "none", "meet(none,has(a))": "none", "join(has(a),all,has(b))": "all", "join(all,has(a))": "all", "meet(has(a),all,has(b))": "meet(has(a),has(b))", "join(has(a),none,has(b))": "join(has(a),has(b))",
		"meet(has(a),all)": "has(a)", "join(none,has(a))": "has(a)",
		// Of one left this one.
		"meet(has(a))": "has(a)", "join(has(a))": "has(a)", "meet(meet(meet(has(a))))": "has(a)", "meet(join(meet(join(has(a)))))": "has(a)", "meet(rest(has(a)))": "rest(has(a))", "meet(join(has(a),has(b)))": "join(has(a),has(b))", "join(meet(has(a),has(b)))": "meet(has(a),has(b))",
		// Themselves, at all depths, in their order.
		"meet(has(c),meet(has(b),has(a)),has(d))": "meet(has(c),has(b),has(a),has(d))", "join(join(has(b),has(a)),has(d))": "join(has(b),has(a),has(d))", "meet(meet(meet(has(a),has(b)),has(c)),meet(has(d),meet(has(e))))": "meet(has(a),has(b),has(c),has(d),has(e))",
		"meet(has(a),join(has(b),has(c)))": "meet(has(a),join(has(b),has(c)))", "join(has(a),meet(has(b),has(c)))": "join(has(a),meet(has(b),has(c)))", "meet(has(a),rest(meet(has(b),has(c))))": "meet(has(a),rest(meet(has(b),has(c))))",
		"meet(has(a),join(meet(has(b),has(c))))": "meet(has(a),has(b),has(c))", "meet(has(a),rest(rest(meet(has(b),has(c)))))": "meet(has(a),has(b),has(c))", "join(has(a),join(none,join(has(b),has(c))))": "join(has(a),has(b),has(c))",
		// The same plan twice: the first alone stays.
		"meet(has(a),has(a))": "has(a)", "join(has(a),has(a),has(a))": "has(a)", "meet(has(b),has(a),has(b),has(c),has(a))": "meet(has(b),has(a),has(c))", "meet(has(a),meet(has(b),has(a)))": "meet(has(a),has(b))", "join(join(has(a),has(b)),join(has(b),has(c)))": "join(has(a),has(b),has(c))",
		"meet(join(has(a),has(b)),join(has(a),has(b)))": "join(has(a),has(b))", "meet(join(has(a),has(b)),join(has(b),has(a)))": "meet(join(has(a),has(b)),join(has(b),has(a)))", "meet(join(has(a),has(b)),has(c),join(has(a),join(has(b),has(a))))": "meet(join(has(a),has(b)),has(c))",
		"join(rest(has(a)),rest(rest(rest(has(a)))))": "rest(has(a))", "meet(has(a),rest(has(a)))": "meet(has(a),rest(has(a)))", "meet(rest(meet(has(a),has(b))),rest(meet(has(a),all,has(b))))": "rest(meet(has(a),has(b)))",
		// Nearly the same.
		"meet(value(c,x),value(c,y),value(c,x))": "meet(value(c,x),value(c,y))", "meet(has(a),has(A))": "meet(has(a),has(A))", "meet(value(c,),has(c),from(c,),upto(c,))": "meet(value(c,),has(c),from(c,),upto(c,))", `meet(has(a\2cb),value(a,b))`: `meet(has(a\2cb),value(a,b))`,
		"meet(grams(c,ab,c),grams(c,a,bc),grams(c,ab,c),grams(c,c,ab))": "meet(grams(c,ab,c),grams(c,a,bc),grams(c,c,ab))", `join(grams(c,a,b),grams(c,a\2cb),grams(c,a,b))`: `join(grams(c,a,b),grams(c,a\2cb))`, "join(grams(c,),grams(c,,))": "join(grams(c,),grams(c,,))",
		// What is decided within decides without.
		"meet(has(a),join(none,meet(none,has(b))))": "none", "join(has(a),rest(meet(none,has(b))))": "all", "meet(has(a),join(has(b),rest(none)))": "has(a)", "meet(has(a),meet(has(b),none))": "none", "join(meet(has(a),join()),has(b))": "has(b)",
	} {
		holdTidy(t, in, want)
	}
}

// grownPlans are all plans of at most so many steps that are made of these, PlanMeet, PlanJoin and PlanRest.
func grownPlans(most int, leaves ...knot) []knot {
	bySize := make([][]knot, most+1)
	for size := 1; size <= most; size++ {
		if size == 1 {
			bySize[1] = slices.Clone(leaves)
		} else {
			for _, k := range bySize[size-1] {
				bySize[size] = append(bySize[size], tie(api.PlanRest, k))
			}
		}
		for _, kids := range rows(bySize, size-1) {
			bySize[size] = append(bySize[size], tie(api.PlanMeet, kids...), tie(api.PlanJoin, kids...))
		}
	}
	return slices.Concat(bySize...)
}

// P15.2, P15.3: all small plans; and what follows: Tidy of Tidy is Tidy, has no more steps, and gives the same.
func TestAllSmallPlans(t *testing.T) {
	entries := three()
	x := index.Build(entries)
	all := grownPlans(5, tie(api.PlanAll), tie(api.PlanNone), tieText(api.PlanHas, "cn", ""), tieText(api.PlanHas, "sn", ""))
	for _, k := range all {
		holdSteps(t, k.list(), x, entries)
		holdTidied(t, k, x)
	}
	if len(all) < 2000 {
		t.Errorf("only %d plans", len(all))
	}
}

func holdTidied(t *testing.T, k knot, x *index.Index) {
	t.Helper()
	steps := k.list()
	once, _ := Tidy(steps)
	twice, err := Tidy(once)
	if err != api.OK || !sameList(once, twice) {
		t.Fatalf("Tidy of Tidy of %s = %s, want %s", slowShow(k), listed(twice), listed(once))
	}
	if len(once) > len(steps) {
		t.Fatalf("Tidy(%s) = %s has more steps", slowShow(k), listed(once))
	}
	before, _ := Run(x, steps)
	behind, _ := Run(x, once)
	if !slices.Equal(before, behind) {
		t.Fatalf("%s gives %d, tidied %d", slowShow(k), before, behind)
	}
}

// P15.2: plans by chance, with few leaves and with leaves of any kind.
func TestTidyAtRandom(t *testing.T) {
	m := newMaker(152)
	entries := someEntries()
	x := index.Build(entries)
	smaller := 0
	for range 3000 {
		k := m.plan(1 + m.Intn(6))
		holdSteps(t, k.list(), x, entries)
		holdTidied(t, k, x)
		if got, _ := Tidy(k.list()); len(got) < len(k.list()) {
			smaller++
		}
		odd := m.oddPlan(1 + m.Intn(4))
		holdSteps(t, odd.list(), x, entries)
		holdTidied(t, odd, x)
	}
	if smaller < 500 {
		t.Errorf("only %d got smaller", smaller)
	}
}

// P15.2: the deciding kid at each place among many; many that are the same; many that are not.
func TestTidyWide(t *testing.T) {
	for _, o := range []api.PlanOp{api.PlanMeet, api.PlanJoin} {
		var kids []knot
		for number := range 3000 {
			kids = append(kids, tieText(api.PlanValue, "cn", string(rune('a'+number%1000))))
		}
		got, err := Tidy(tie(o, kids...).list())
		if err != api.OK || !sameList(got, tie(o, kids[:1000]...).list()) {
			t.Errorf("%d steps, %d", len(got), err)
		}
		for _, place := range []int{0, 1500, 2999} {
			for _, decides := range []api.PlanOp{api.PlanAll, api.PlanNone} {
				was := kids[place]
				kids[place] = tie(decides)
				got, _ := Tidy(tie(o, kids...).list())
				if !sameList(got, slowTidyWide(o, kids, decides)) {
					t.Errorf("%d of %d: %d steps", decides, o, len(got))
				}
				kids[place] = was
			}
		}
	}
}

// slowTidyWide knows that a thousand of the three thousand are left, or one step.
func slowTidyWide(o api.PlanOp, kids []knot, decides api.PlanOp) []api.Step {
	if (o == api.PlanMeet) == (decides == api.PlanNone) {
		return tie(decides).list()
	}
	seen := map[string]bool{}
	k := tie(o)
	for _, kid := range kids {
		if kid.step.Op == api.PlanValue && !seen[kid.step.Text] {
			seen[kid.step.Text] = true
			k.kids = append(k.kids, kid)
		}
	}
	return k.list()
}
