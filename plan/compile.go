package plan

import (
	"slices"

	"roster/api"
	"roster/attr"
	"roster/index"
	"roster/match"
	"roster/posting"
)

// compiled makes the plans for TRUE and for FALSE of what filter.Check takes. A Not has no step of its own: beneath it the two change places, and all stands one less deep.
func compiled(f api.Filter) (yes, no []api.Step) {
	var nots [api.MaxFilter + 1]int // by depth: how many there are from the top down to the last node there
	for _, n := range f {
		above := nots[n.Depth-1]
		nots[n.Depth] = above
		if n.Op == api.Not {
			nots[n.Depth]++
			continue
		}
		may, mayNot := node(n)
		if above%2 == 1 {
			may, mayNot = mayNot, may
		}
		yes = laid(yes, may, n.Depth-above)
		no = laid(no, mayNot, n.Depth-above)
	}
	return yes, no
}

// laid puts steps behind a plan, each beneath the one ahead of it, from this depth on.
func laid(plan, steps []api.Step, depth int) []api.Step {
	for below, s := range steps {
		s.Depth = depth + below
		plan = append(plan, s)
	}
	return plan
}

// node tells the steps of one node, without those of its kids, for TRUE and for FALSE.
func node(n api.FilterNode) (yes, no []api.Step) {
	switch n.Op {
	case api.And:
		return []api.Step{{Op: api.PlanMeet}}, []api.Step{{Op: api.PlanJoin}}
	case api.Or:
		return []api.Step{{Op: api.PlanJoin}}, []api.Step{{Op: api.PlanMeet}}
	}
	return item(n)
}

// An item is one of three kinds.

// undefined is one that is neither TRUE nor FALSE anywhere.
func undefined() (yes, no []api.Step) {
	return []api.Step{{Op: api.PlanNone}}, []api.Step{{Op: api.PlanNone}}
}

// exact is one that is TRUE just where the step gives an entry, and FALSE everywhere else.
func exact(s api.Step) (yes, no []api.Step) {
	return []api.Step{s}, []api.Step{{Op: api.PlanRest}, s}
}

// rough is one of which the step gives too many entries, so that it may be FALSE on any.
func rough(s api.Step) (yes, no []api.Step) {
	return []api.Step{s}, []api.Step{{Op: api.PlanAll}}
}

// item goes by the order of the chapter's table: what is none of its first lines has a known type, and if it is an Extensible, a known rule or none.
func item(n api.FilterNode) (yes, no []api.Step) {
	s := attr.Syntax(n.Desc)
	extensible := n.Op == api.Extensible
	switch {
	case extensible && strange(n.Rule):
		return undefined()
	case extensible && n.Desc == "":
		return rough(api.Step{Op: api.PlanAll})
	case s == api.SynNone:
		return undefined()
	case extensible && n.DNAttrs:
		return rough(api.Step{Op: api.PlanAll})
	}
	d, _, _ := attr.Canonical(n.Desc)
	switch {
	case n.Op == api.Present:
		return exact(api.Step{Op: api.PlanHas, Desc: d})
	case n.Op == api.AtLeast:
		return ordered(api.PlanFrom, s, d, n.Value)
	case n.Op == api.AtMost:
		return ordered(api.PlanUpTo, s, d, n.Value)
	case n.Op == api.Substrings:
		return pieces(s, d, n.Parts)
	case extensible && n.Rule != "":
		return ruled(n.Rule, s, d, n.Value)
	}
	return valued(api.PlanValue, s, d, n.Value)
}

// strange tells whether a rule isn't known; none at all is not strange.
func strange(rule string) bool {
	_, known := match.RuleOf(rule)
	return rule != "" && !known
}

// valued is an item by the normal form of its value.
func valued(op api.PlanOp, s api.Syntax, d, value string) (yes, no []api.Step) {
	normal, ok := match.Normal(s, value)
	if !ok {
		return undefined()
	}
	return exact(api.Step{Op: op, Desc: d, Text: normal})
}

func ordered(op api.PlanOp, s api.Syntax, d, value string) (yes, no []api.Step) {
	if !match.Ordered(s) {
		return undefined()
	}
	return valued(op, s, d, value)
}

func pieces(s api.Syntax, d string, p api.Pattern) (yes, no []api.Step) {
	normal, ok := match.Parts(s, p)
	if !ok {
		return undefined()
	}
	var grams []string
	for _, piece := range slices.Concat([]string{normal.Initial}, normal.Any, []string{normal.Final}) {
		grams = append(grams, index.Grams(piece)...)
	}
	if len(grams) == 0 {
		return rough(api.Step{Op: api.PlanHas, Desc: d})
	}
	return rough(api.Step{Op: api.PlanGrams, Desc: d, Grams: posting.Of(grams)})
}

// ruled is an Extensible with a rule. The indexes know values by their own syntax's rule alone: what another one asks is roughly that there is a value.
func ruled(rule string, s api.Syntax, d, value string) (yes, no []api.Step) {
	r, _ := match.RuleOf(rule)
	if !match.Suits(r, s) || !match.Asserts(r, value) {
		return undefined()
	}
	if r == match.RuleFor(s) {
		return valued(api.PlanValue, s, d, value)
	}
	return rough(api.Step{Op: api.PlanHas, Desc: d})
}
