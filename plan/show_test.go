package plan

import (
	"strings"
	"testing"

	"roster/api"
)

// P15.2: the chapter's forms, each Op by its word.
func TestShowExamples(t *testing.T) {
	for _, c := range []struct {
		k    knot
		want string
	}{
		{tieText(api.PlanValue, "cn", "a,b"), `value(cn,a\2cb)`},
		{tie(api.PlanAll), "all"}, {tie(api.PlanNone), "none"}, {tieText(api.PlanHas, "cn", ""), "has(cn)"}, {tieText(api.PlanFrom, "cn", "b"), "from(cn,b)"}, {tieText(api.PlanUpTo, "cn", "b"), "upto(cn,b)"},
		{tieGrams("cn", "abc"), "grams(cn,abc)"}, {tieGrams("cn", "abc", "bcd", "abc"), "grams(cn,abc,bcd,abc)"},
		{tie(api.PlanMeet), "meet()"}, {tie(api.PlanJoin), "join()"}, {tie(api.PlanRest, tie(api.PlanMeet)), "rest(meet())"},
		{tie(api.PlanMeet, tie(api.PlanAll)), "meet(all)"}, {tie(api.PlanJoin, tie(api.PlanAll), tie(api.PlanNone), tie(api.PlanAll)), "join(all,none,all)"},
		{tie(api.PlanMeet, tie(api.PlanJoin, tieText(api.PlanHas, "a", "")), tie(api.PlanRest, tieText(api.PlanValue, "b", "c")), tie(api.PlanJoin)), "meet(join(has(a)),rest(value(b,c)),join())"},
		{tieText(api.PlanHas, "", ""), "has()"}, {tieText(api.PlanValue, "", ""), "value(,)"}, {tieText(api.PlanFrom, "", ""), "from(,)"}, {tieText(api.PlanUpTo, "", ""), "upto(,)"}, {tieText(api.PlanValue, "", "x"), "value(,x)"}, {tieText(api.PlanValue, "x", ""), "value(x,)"},
		{tieGrams("", ""), "grams(,)"}, {tieGrams("", "", ""), "grams(,,)"}, {tieGrams("a", ""), "grams(a,)"},
	} {
		if got := shown(t, c.k.list()); got != c.want {
			t.Errorf("Show(%s) = %s, want %s", listed(c.k.list()), got, c.want)
		}
		if slow := slowShow(c.k); slow != c.want {
			t.Errorf("the slow answer is %s, want %s", slow, c.want)
		}
	}
}

// P15.2: every byte, in each field: as it is, or behind a backslash.
func TestShowBytes(t *testing.T) {
	const digits = "0123456789abcdef"
	plain := 0
	for number := range 256 {
		b := byte(number)
		want := string([]byte{b})
		if b <= ' ' || b >= 0x7f || strings.ContainsRune("(),\\", rune(b)) {
			want = string([]byte{'\\', digits[b/16], digits[b%16]})
		} else {
			plain++
		}
		s := "x" + string([]byte{b}) + string([]byte{b}) + "y"
		want = "x" + want + want + "y"
		for _, c := range []struct {
			k    knot
			want string
		}{
			{tieText(api.PlanValue, "cn", s), "value(cn," + want + ")"}, {tieText(api.PlanValue, s, s), "value(" + want + "," + want + ")"}, {tieText(api.PlanHas, s, ""), "has(" + want + ")"}, {tieGrams(s, s, "a", s), "grams(" + want + "," + want + ",a," + want + ")"}, {tieText(api.PlanFrom, s, s), "from(" + want + "," + want + ")"}, {tieText(api.PlanUpTo, s, s), "upto(" + want + "," + want + ")"},
		} {
			if got := shown(t, c.k.list()); got != c.want {
				t.Errorf("Show(%s) = %s, want %s", listed(c.k.list()), got, c.want)
			}
		}
	}
	if plain != 94-4 {
		t.Errorf("%d stand plain", plain)
	}
}

// P15.2, and what follows: a text can be read back, so two plans with one text are the same plan.
func TestShowReadBack(t *testing.T) {
	m := newMaker(153)
	for range 3000 {
		k := m.oddPlan(1 + m.Intn(5))
		if got := shown(t, k.list()); !sameList(planOf(got), k.list()) {
			t.Fatalf("%s reads as %s, not as %s", got, listed(planOf(got)), listed(k.list()))
		}
		leaf := tieText(pick(m.Rand, []api.PlanOp{api.PlanValue, api.PlanFrom, api.PlanUpTo}), someBytes(m.Rand, 6), someBytes(m.Rand, 6))
		grams := tieGrams(someBytes(m.Rand, 3), someBytes(m.Rand, 3), someBytes(m.Rand, 3))
		both := tie(api.PlanJoin, leaf, tie(api.PlanRest, grams), leaf).list()
		if got := shown(t, both); !sameList(planOf(got), both) {
			t.Fatalf("%s reads as %s, not as %s", got, listed(planOf(got)), listed(both))
		}
	}
	seen := map[string]bool{}
	all := grownPlans(4, tie(api.PlanAll), tie(api.PlanNone), tieText(api.PlanHas, "", ""), tieText(api.PlanValue, ",", ""), tieText(api.PlanValue, "", ","), tieGrams("", ","), tieGrams("", "", ""))
	for _, k := range all {
		text := shown(t, k.list())
		if seen[text] {
			t.Fatalf("two plans have the text %s", text)
		}
		seen[text] = true
	}
}
