package plan

import (
	"fmt"
	"math/rand"
	"slices"
	"strings"
	"sync"
	"testing"

	"roster/api"
	"roster/index"
)

// roomyTexts are texts with spare room that has something in it.
func roomyTexts(texts []string) []string {
	return append(slices.Clone(texts), "spare", "room")[:len(texts)]
}

// roomy is a list all of whose lists have such room; roomyFilter the same of a filter.
func roomy(steps []api.Step) []api.Step {
	out := append(slices.Clone(steps), at1(api.PlanAll), at1(api.PlanNone))
	for i := range out {
		out[i].Grams = roomyTexts(out[i].Grams)
	}
	return out[:len(steps)]
}

func roomyFilter(f api.Filter) api.Filter {
	out := append(slices.Clone(f), with(api.Present, "spare", ""), with(api.Present, "room", ""))
	for i := range out {
		out[i].Parts.Any = roomyTexts(out[i].Parts.Any)
	}
	return out[:len(f)]
}

// wholeList is all that a list has, spare room too, as one text; wholeFilter the same of a filter.
func wholeList(steps []api.Step) string {
	out := listed(steps[:cap(steps)])
	for _, s := range steps[:cap(steps)] {
		out += fmt.Sprintf("%q", s.Grams[:cap(s.Grams)])
	}
	return out
}

func wholeFilter(f api.Filter) string {
	out := toldFilter(f[:cap(f)])
	for _, n := range f[:cap(f)] {
		out += fmt.Sprintf("%q", n.Parts.Any[:cap(n.Parts.Any)])
	}
	return out
}

func spoilTexts(texts []string) {
	for i := range texts[:cap(texts)] {
		texts[:cap(texts)][i] = "spoilt"
	}
}

// spoil writes over all that a list has, spare room too; spoilFilter and spoilNumbers the same of theirs.
func spoil(steps []api.Step) {
	for i, s := range steps[:cap(steps)] {
		spoilTexts(s.Grams)
		steps[:cap(steps)][i] = api.Step{Depth: -7, Op: 77, Desc: "spoilt"}
	}
}

func spoilFilter(f api.Filter) {
	for i, n := range f[:cap(f)] {
		spoilTexts(n.Parts.Any)
		f[:cap(f)][i] = api.FilterNode{Depth: -7, Op: 77, Desc: "spoilt"}
	}
}

func spoilNumbers(numbers []int) {
	for i := range numbers[:cap(numbers)] {
		numbers[:cap(numbers)][i] = -7
	}
}

// answers are all that the calls tell of a filter, and of a list, as one text.
func answers(x *index.Index, f api.Filter, steps []api.Step) string {
	yes, no, err := Compile(f)
	out := listed(yes) + listed(no) + fmt.Sprint(err, Candidates(x, f))
	tidy, err := Tidy(steps)
	out += listed(tidy) + fmt.Sprint(err)
	text, err := Show(steps)
	out += text + fmt.Sprint(err)
	numbers, err := Run(x, steps)
	return out + fmt.Sprint(numbers, err)
}

// P15.5, P0.1: nothing that is handed in is changed, spare room too; asked again, a call answers the same.
func TestNothingIsChanged(t *testing.T) {
	m := newMaker(157)
	x := index.Build(someEntries())
	for range 1000 {
		f, steps := roomyFilter(m.filter(1+m.Intn(4))), roomy(m.oddPlan(1+m.Intn(4)).list())
		beforeFilter, before := wholeFilter(f), wholeList(steps)
		first := answers(x, f, steps)
		if again := answers(x, f, steps); again != first {
			t.Fatalf("it told %s, then %s", first, again)
		}
		if wholeFilter(f) != beforeFilter || wholeList(steps) != before {
			t.Fatalf("%s or %s was changed", beforeFilter, before)
		}
	}
}

// P15.5, P0.1: what the caller writes into what was handed in is not seen in what was answered, nor in later answers.
func TestNothingIsKept(t *testing.T) {
	m := newMaker(158)
	entries := someEntries()
	x := index.Build(entries)
	for range 500 {
		f, steps := roomyFilter(m.filter(1+m.Intn(4))), roomy(m.oddPlan(1+m.Intn(4)).list())
		k := knotOf(planOf(slowShow(knotOf(steps))))
		yes, no, _ := Compile(f)
		tidy, _ := Tidy(steps)
		want := listed(yes) + listed(no) + listed(tidy)
		spoilFilter(f)
		spoil(steps)
		if got := listed(yes) + listed(no) + listed(tidy); got != want {
			t.Fatalf("%s became %s", want, got)
		}
		holdSteps(t, k.list(), x, entries)
	}
}

// P15.5, P0.1: no two lists of an answer, and no lists of two answers, share memory, spare room too.
func TestAnswersShareNothing(t *testing.T) {
	m := newMaker(159)
	entries := someEntries()
	x := index.Build(entries)
	for range 300 {
		f, k := m.filter(1+m.Intn(4)), m.oddPlan(1+m.Intn(4))
		steps := k.list()
		want := answers(x, f, steps)
		yes, no, _ := Compile(f)
		kept := listed(no)
		spoil(yes)
		if listed(no) != kept {
			t.Fatalf("what is written into T is seen in F: %s", listed(no))
		}
		spoil(no)
		tidy, _ := Tidy(steps)
		spoil(tidy)
		numbers, _ := Run(x, steps)
		spoilNumbers(numbers)
		spoilNumbers(Candidates(x, f))
		if got := answers(x, f, steps); got != want {
			t.Fatalf("what is written into answers is seen: %s became %s", want, got)
		}
		holdSteps(t, k.list(), x, entries)
	}
}

// P15.5, P0.1: the lists of grams within one answer are each by themselves; so is each of many answers of Run.
func TestListsWithinAnswers(t *testing.T) {
	f := under(api.Or, nodes(sub("cn", "abcd", nil, "")), under(api.Not, nodes(sub("cn", "abcd", nil, ""))), nodes(sub("cn", "abcd", nil, "")))
	yes, no, _ := Compile(f)
	if len(yes) != 4 || len(no) != 4 {
		t.Fatalf("%s and %s", listed(yes), listed(no))
	}
	spoilTexts(yes[1].Grams)
	spoilTexts(no[2].Grams)
	if want := []string{"abc", "bcd"}; !slices.Equal(yes[3].Grams, want) {
		t.Errorf("the grams became %q", yes[3].Grams)
	}
	grams := roomyTexts([]string{"abc", "bcd"})
	steps := []api.Step{at1(api.PlanMeet), {Depth: 2, Op: api.PlanGrams, Desc: "a", Grams: grams}, {Depth: 2, Op: api.PlanGrams, Desc: "b", Grams: grams}}
	tidy, _ := Tidy(steps)
	spoilTexts(tidy[1].Grams)
	if !slices.Equal(tidy[2].Grams, []string{"abc", "bcd"}) || !slices.Equal(grams[:4], []string{"abc", "bcd", "spare", "room"}) {
		t.Errorf("the grams became %q, those handed in %q", tidy[2].Grams, grams[:4])
	}
	x := index.Build(three())
	for _, text := range []string{"all", "has(cn)", "value(cn,ada)", "grams(cn,bea)", "meet(has(cn))", "join(has(cn))", "rest(has(cn))", "from(cn,a)", "upto(cn,z)", "meet()"} {
		one, _ := Run(x, planOf(text))
		other, _ := Run(x, planOf(text))
		want := slices.Clone(other)
		_ = append(one, 9)
		spoilNumbers(one)
		if third, _ := Run(x, planOf(text)); !slices.Equal(other, want) || !slices.Equal(third, want) {
			t.Errorf("%s: %d became %d, and %d behind it", text, want, other, third)
		}
	}
}

// P0.1: nil and empty lists are the same.
func TestNilAndEmpty(t *testing.T) {
	m := newMaker(160)
	x := index.Build(someEntries())
	for range 500 {
		f, steps := m.filter(1+m.Intn(4)), m.oddPlan(1+m.Intn(4)).list()
		g, others := slices.Clone(f), slices.Clone(steps)
		for i := range g {
			if len(g[i].Parts.Any) == 0 {
				g[i].Parts.Any = []string{}
			}
		}
		for i := range others {
			if len(others[i].Grams) == 0 {
				others[i].Grams = []string{}
			}
		}
		if answers(x, f, steps) != answers(x, g, others) {
			t.Fatalf("nil and empty lists are told apart in %s or %s", toldFilter(f), listed(steps))
		}
	}
	if answers(x, nil, nil) != answers(x, api.Filter{}, []api.Step{}) {
		t.Error("nil and empty lists are told apart")
	}
}

// someBytes is a text of any bytes.
func someBytes(r *rand.Rand, longest int) string {
	b := make([]byte, r.Intn(longest+1))
	r.Read(b)
	return string(b)
}

// P15.5: no call panics, at any list of any nodes or steps; what is told is what the chapter says.
func TestAnyLists(t *testing.T) {
	m := newMaker(161)
	entries := someEntries()
	x := index.Build(entries)
	text := func(from []string) string {
		if m.Intn(3) == 0 {
			return someBytes(m.Rand, 5)
		}
		return pick(m.Rand, from)
	}
	for range 5000 {
		var steps []api.Step
		var f api.Filter
		for place := range 1 + m.Intn(4) {
			s := api.Step{Depth: place + m.Intn(3), Op: api.PlanOp(m.Intn(12) - 1), Desc: text(m.descs), Text: text(m.values)}
			if m.Intn(2) == 0 {
				s.Text = ""
			}
			if m.Intn(2) == 0 {
				s.Desc = ""
			}
			if m.Intn(3) == 0 {
				s.Grams = []string{text([]string{"ann"})}
			}
			steps = append(steps, s)
			n := api.FilterNode{Depth: place + m.Intn(3), Op: api.FilterOp(m.Intn(12) - 1), Desc: text(m.descs), Value: text(m.values), Rule: text([]string{"", "wordMatch"}), DNAttrs: m.Intn(2) == 0}
			f = append(f, n)
		}
		holdSteps(t, steps, x, entries)
		holdCompile(t, f)
		answers(x, f, steps)
	}
}

// P15.5: a plan or a filter, spoilt in one field of one of its steps, is judged as the chapter says.
func TestSpoiltLists(t *testing.T) {
	m := newMaker(162)
	entries := three()
	x := index.Build(entries)
	refused := 0
	for range 5000 {
		steps := m.plan(2 + m.Intn(4)).list()
		s := &steps[m.Intn(len(steps))]
		switch m.Intn(5) {
		case 0:
			s.Depth += m.Intn(5) - 2
		case 1:
			s.Op = api.PlanOp(m.Intn(12) - 1)
		case 2:
			s.Desc = pick(m.Rand, []string{"", "cn"})
		case 3:
			s.Text = pick(m.Rand, []string{"", "ann"})
		case 4:
			s.Grams = [][]string{nil, {}, {"ann"}}[m.Intn(3)]
		}
		holdSteps(t, steps, x, entries)
		if !slowIsPlan(steps) {
			refused++
		}
	}
	if refused < 1000 || refused > 4500 {
		t.Errorf("%d are refused", refused)
	}
}

// P15.5: long texts, many grams, and wide and deep plans end.
func TestLongTexts(t *testing.T) {
	long := strings.Repeat("Ann  Lee ", 20000)
	x := index.Build([]api.Entry{entryOf(at("cn", long)), entryOf(at("cn", "Ann"), at("sn", long+"x"))})
	normal := strings.TrimSpace(strings.Repeat("ann lee ", 20000))
	for text, want := range map[string][]int{"value(cn," + strings.ReplaceAll(normal, " ", `\20`) + ")": {0}, "from(name,ann\\20l)": {0, 1}, `grams(name,lee,ann,e\20x)`: {1}} {
		holdRun(t, x, text, want...)
	}
	if got := Candidates(x, nodes(with(api.Equality, "cn", long))); !slices.Equal(got, []int{0}) {
		t.Errorf("Candidates = %d", got)
	}
	if got := Candidates(x, nodes(sub("cn", long, nil, ""))); !slices.Equal(got, []int{0}) {
		t.Errorf("Candidates = %d", got)
	}
	var kids []api.Filter
	for number := range 300 {
		kids = append(kids, chain(api.FilterOp(number%3), api.MaxFilter-2, nodes(with(api.Equality, "cn", fmt.Sprint(number)))))
	}
	f := under(api.Or, kids...)
	yes, no, err := Compile(f)
	if err != api.OK {
		t.Fatal(err)
	}
	holdCompile(t, f)
	for _, steps := range [][]api.Step{yes, no} {
		got, err := Tidy(steps)
		if err != api.OK || !sameList(got, slowTidy(knotOf(steps)).list()) {
			t.Errorf("Tidy of %d steps has %d", len(steps), len(got))
		}
	}
}

// P0.1: many may ask at once, of one index.
func TestManyAtOnce(t *testing.T) {
	m := newMaker(163)
	x := index.Build(someEntries())
	var filters []api.Filter
	var plans [][]api.Step
	var want []string
	for range 20 {
		f, steps := m.filter(4), m.oddPlan(4).list()
		filters, plans, want = append(filters, f), append(plans, steps), append(want, answers(x, f, steps))
	}
	var group sync.WaitGroup
	for range 8 {
		group.Go(func() {
			for i := range filters {
				if got := answers(x, filters[i], plans[i]); got != want[i] {
					t.Errorf("it told %s, want %s", got, want[i])
				}
			}
		})
	}
	group.Wait()
}
