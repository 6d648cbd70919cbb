package plan

import (
	"slices"
	"strings"
	"testing"

	"roster/api"
	"roster/index"
)

func holdRun(t *testing.T, x *index.Index, text string, want ...int) {
	t.Helper()
	got, err := Run(x, planOf(text))
	if err != api.OK || !slices.Equal(got, want) {
		t.Errorf("Run(%s) = %d, %d, want %d", text, got, err, want)
	}
}

// P15.3: the chapter's examples.
func TestRunExamples(t *testing.T) {
	x := index.Build(three())
	holdRun(t, x, "value(cn,ada)", 0)
	holdRun(t, x, "rest(has(cn))", 2)
	holdRun(t, x, "meet()", 0, 1, 2)
	holdRun(t, x, "join()")
	holdRun(t, x, "grams(cn,bea)", 1)
	holdRun(t, x, "from(cn,b)", 1)
	holdRun(t, x, "upto(cn,ada)", 0)
	holdRun(t, x, "from(name,x)", 1, 2)
	holdRun(t, x, "from(mail,a)")
	holdRun(t, x, "value(cn,Ada)")
	for _, steps := range [][]api.Step{{{Depth: 1, Op: api.PlanRest}}, {{Depth: 1, Op: api.PlanGrams, Desc: "cn"}}} {
		if got, err := Run(x, steps); got != nil || err != api.ErrArg {
			t.Errorf("Run(%s) = %d, %d", listed(steps), got, err)
		}
	}
}

// P15.3: each Op, and PlanMeet, PlanJoin and PlanRest of them.
func TestRunOps(t *testing.T) {
	x := index.Build(three())
	for text, want := range map[string][]int{
		"all": {0, 1, 2}, "none": nil, "has(cn)": {0, 1}, "has(SN)": {1, 2}, "has(name)": {0, 1, 2}, "has(foo)": nil, "has()": nil, "value(name,y)": {2}, "value(,)": nil,
		"grams(name,ada)": {0}, "grams(name,ada,bea)": nil, "grams(cn,ad)": nil, "grams(cn,)": nil, "grams(cn,bea,bea)": {1},
		"meet(has(cn),has(sn))": {1}, "meet(has(cn))": {0, 1}, "meet(has(cn),none)": nil, "meet(none,has(cn))": nil, "meet(all,has(sn),all)": {1, 2}, "meet(value(cn,ada),value(cn,bea))": nil, "meet(has(cn),has(name),has(cn))": {0, 1},
		"join(value(sn,y),value(cn,ada))": {0, 2}, "join(has(cn),has(cn))": {0, 1}, "join(none,none)": nil, "join(value(cn,bea),all)": {0, 1, 2}, "join(has(sn))": {1, 2},
		"rest(all)": nil, "rest(none)": {0, 1, 2}, "rest(meet())": nil, "rest(join())": {0, 1, 2}, "rest(rest(has(sn)))": {1, 2}, "rest(value(cn,ada))": {1, 2},
		"meet(rest(value(cn,ada)),join(has(cn),value(sn,nope)))": {1}, "join(meet(has(cn),has(sn)),rest(has(name)),meet(value(cn,ada),rest(has(sn))))": {0, 1},
	} {
		holdRun(t, x, text, want...)
	}
}

// P15.3: over an index of no entries nothing gives anything.
func TestRunNoEntries(t *testing.T) {
	m := newMaker(154)
	for _, x := range []*index.Index{index.Build(nil), index.Build([]api.Entry{})} {
		for _, text := range []string{"all", "none", "meet()", "join()", "rest(none)", "rest(has(cn))", "has(cn)", "from(cn,)", "upto(cn,z)", "meet(all,all)"} {
			holdRun(t, x, text)
		}
		for range 200 {
			steps := m.oddPlan(1 + m.Intn(4)).list()
			if got, err := Run(x, steps); len(got) != 0 || err != api.OK {
				t.Fatalf("Run(%s) = %d, %d", listed(steps), got, err)
			}
		}
	}
}

// P15.3: entries without attributes, and attributes without values, are numbered all the same.
func TestRunBareEntries(t *testing.T) {
	x := index.Build([]api.Entry{{}, entryOf(at("cn")), entryOf(at("cn", "")), {}})
	holdRun(t, x, "all", 0, 1, 2, 3)
	holdRun(t, x, "has(cn)", 2)
	holdRun(t, x, "rest(has(cn))", 0, 1, 3)
	holdRun(t, x, "from(cn,)")
	holdRun(t, x, "value(cn,)")
	holdRun(t, x, "rest(upto(cn,zzz))", 0, 1, 2, 3)
}

// P15.3: PlanFrom and PlanUpTo of each syntax: its own order, or none; a value that is not of the syntax is nowhere.
func TestRunOrders(t *testing.T) {
	for _, one := range samples() {
		entries := []api.Entry{entryOf(at(one.canon, one.more)), entryOf(at(one.canon, one.none, one.value)), entryOf(at(one.canon, one.less)), {}, entryOf(at(one.canon, one.same, one.less)), entryOf(at("x-odd", one.value))}
		if one.s != api.SynOctet {
			entries = append(entries, entryOf(at(one.canon, one.none)))
		}
		x := index.Build(entries)
		text := slowShow(tieText(api.PlanHas, normalOf(one.s, one.value), ""))[len("has("):]
		if !one.ordered {
			holdRun(t, x, "from("+one.desc+","+text)
			holdRun(t, x, "upto("+one.desc+","+text)
			continue
		}
		holdRun(t, x, "from("+one.desc+","+text, 0, 1, 4)
		holdRun(t, x, "upto("+one.desc+","+text, 1, 2, 4)
		for _, o := range []api.PlanOp{api.PlanFrom, api.PlanUpTo} {
			for _, value := range []string{one.value, one.less, one.more, one.none, "", "\xff", "zz", "-1", "1"} {
				holdSteps(t, tieText(o, one.desc, value).list(), x, entries)
				holdSteps(t, tieText(o, one.canon, normalOf(one.s, value)).list(), x, entries)
			}
		}
	}
}

// P15.3: numbers are held against each other as numbers, of any length; a Text that is no number, byte by byte.
func TestRunIntegers(t *testing.T) {
	long := strings.Repeat("9", 40)
	x := index.Build([]api.Entry{entryOf(at("uidnumber", "9")), entryOf(at("uidnumber", "10")), entryOf(at("uidnumber", "-10")), entryOf(at("uidnumber", "-9")), entryOf(at("uidnumber", long)), entryOf(at("uidnumber", "0")), entryOf(at("gidnumber", "10")), entryOf(at("uidnumber", "010"))})
	holdRun(t, x, "from(uidNumber,9)", 0, 1, 4)
	holdRun(t, x, "from(uidNumber,10)", 1, 4)
	holdRun(t, x, "upto(uidNumber,-9)", 2, 3)
	holdRun(t, x, "upto(uidNumber,-10)", 2)
	holdRun(t, x, "from(uidNumber,"+long+")", 4)
	holdRun(t, x, "upto(uidNumber,"+long+"0)", 0, 1, 2, 3, 4, 5)
	holdRun(t, x, "upto(uidNumber,-"+long+")")
	holdRun(t, x, "from(uidNumber,0)", 0, 1, 4, 5)
	holdRun(t, x, "from(uidNumber,5x)", 0, 4)
	holdRun(t, x, "from(uidNumber,)", 0, 1, 2, 3, 4, 5)
	holdRun(t, x, "upto(uidNumber,)")
	holdRun(t, x, "meet(from(uidNumber,-9),upto(uidNumber,9))", 0, 3, 5)
}

// P15.3: super types, options, other names, and Canons that are no canonical description; an entry is given once, however many of its values are.
func TestRunCovered(t *testing.T) {
	x := index.Build([]api.Entry{
		entryOf(at("cn", "a"), at("sn", "b"), at("c-ou", "c")),
		entryOf(at("cn;lang-de", "b"), at("x-odd", "b")),
		entryOf(at("cn;lang-de;x", "c", "a", "d")),
		entryOf(at("mail", "b"), at("description", "b"), at("dc", "b")),
		entryOf(at("CN", "b")),
		entryOf(at("commonName", "d")),
		entryOf(at("cn;", "b"), at("c n", "b"), at("", "b")),
		entryOf(at("name", "b")),
	})
	holdRun(t, x, "from(name,b)", 0, 1, 2, 4, 5, 7)
	holdRun(t, x, "upto(name,b)", 0, 1, 2, 4, 7)
	holdRun(t, x, "from(2.5.4.41,d)", 2, 5)
	holdRun(t, x, "from(cn,b)", 1, 2, 4, 5)
	holdRun(t, x, "from(COMMONNAME,b)", 1, 2, 4, 5)
	holdRun(t, x, "from(name;lang-DE,b)", 1, 2)
	holdRun(t, x, "upto(cn;x,c)", 2)
	holdRun(t, x, "upto(cn;x;lang-de;x,)")
	holdRun(t, x, "from(ou,)", 0)
	holdRun(t, x, "from(c-ou,)", 0)
	holdRun(t, x, "from(x-odd,)")
	holdRun(t, x, "upto(x-odd,z)")
	holdRun(t, x, "from(,)")
	holdRun(t, x, "from(c\\20n,)")
	holdRun(t, x, "from(cn;,)")
	holdRun(t, x, "from(description,b)", 3)
	holdRun(t, x, "from(dc,)")
	holdRun(t, x, "has(x-odd)", 1)
	holdRun(t, x, "has(name)", 0, 1, 2, 4, 5, 7)
}

// P15.3: plans by chance over entries by chance.
func TestRunAtRandom(t *testing.T) {
	m := newMaker(155)
	given := 0
	for range 300 {
		entries := m.someOf()
		x := index.Build(entries)
		for turn := range 10 {
			k := m.oddPlan(1 + m.Intn(4))
			if turn%2 == 0 {
				k = m.plan(1 + m.Intn(4))
			}
			holdSteps(t, k.list(), x, entries)
			if got, _ := Run(x, k.list()); 0 < len(got) && len(got) < len(entries) {
				given++
			}
		}
	}
	if given < 300 {
		t.Errorf("only %d give some", given)
	}
}

// P15.3: many entries.
func TestRunManyEntries(t *testing.T) {
	var entries []api.Entry
	for number := range 3000 {
		entries = append(entries, entryOf(at("uidnumber", strings.Repeat("1", 1+number%7)), at("cn", string(rune('a'+number%26))+"nn")))
	}
	x := index.Build(entries)
	for _, text := range []string{"from(uidNumber,111)", "upto(uidNumber,111)", "rest(from(uidNumber,111))", "meet(from(cn,f),upto(cn,t),rest(value(cn,knn)))", "join(value(uidNumber,1),value(cn,ann),value(cn,bnn))", "grams(cn,bnn)", "meet(grams(cn,bnn),all,has(uidnumber))"} {
		holdSteps(t, planOf(text), x, entries)
	}
}
