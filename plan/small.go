package plan

import "roster/api"

// tree is a plan taken apart: a step that has no Depth yet, what stands beneath it, and the text by which the same plan is found.
type tree struct {
	step api.Step
	kids []tree
	text string
}

func treeOf(s api.Step, kids ...tree) tree {
	var texts []string
	for _, kid := range kids {
		texts = append(texts, kid.text)
	}
	s.Depth = 0
	return tree{s, kids, told(s, texts)}
}

// bare is a step without its list; so it can be compared as a whole.
type bare struct {
	Depth      int
	Op         api.PlanOp
	Desc, Text string
}

// is tells whether a tree is the one step of an Op that has nothing else.
func (t tree) is(op api.PlanOp) bool {
	return bare{t.step.Depth, t.step.Op, t.step.Desc, t.step.Text} == bare{Op: op}
}

// small makes the first step, with all that stands beneath it, smaller.
func small(steps []api.Step) tree {
	var kids []tree
	overKids(steps, func(kid []api.Step) bool {
		kids = append(kids, small(kid))
		return true
	})
	switch top := steps[0]; top.Op {
	case api.PlanRest:
		return smallRest(kids[0])
	case api.PlanMeet:
		return gathered(top, kids, api.PlanAll, api.PlanNone)
	case api.PlanJoin:
		return gathered(top, kids, api.PlanNone, api.PlanAll)
	default:
		return treeOf(top)
	}
}

func smallRest(kid tree) tree {
	switch {
	case kid.is(api.PlanNone):
		return treeOf(api.Step{Op: api.PlanAll})
	case kid.is(api.PlanAll):
		return treeOf(api.Step{Op: api.PlanNone})
	case kid.step.Op == api.PlanRest:
		return kid.kids[0]
	}
	return treeOf(api.Step{Op: api.PlanRest}, kid)
}

// gathered makes a PlanMeet or PlanJoin of kids that are small already. idle is the Op of what changes nothing there, final that of what decides it, whatever the others are.
func gathered(top api.Step, kids []tree, idle, final api.PlanOp) tree {
	var left []tree
	seen := map[string]int{}
gather:
	for _, kid := range kids {
		for _, part := range pulledUp(top.Op, kid) {
			if part.is(final) {
				left = []tree{part}
				break gather
			}
			if part.is(idle) {
				continue gather
			}
			seen[part.text]++
			if seen[part.text] == 1 {
				left = append(left, part)
			}
		}
	}
	switch len(left) {
	case 0:
		return treeOf(api.Step{Op: idle})
	case 1:
		return left[0]
	}
	return treeOf(top, left...)
}

// pulledUp is what stands in a kid's place: its own kids, if it is of the Op of the step above it.
func pulledUp(op api.PlanOp, kid tree) []tree {
	if kid.step.Op == op {
		return kid.kids
	}
	return []tree{kid}
}

// flat lays a tree down behind the steps, from this depth on. The lists of its steps are still those that were handed in: here they become new ones.
func flat(steps []api.Step, t tree, depth int) []api.Step {
	s := t.step
	s.Depth = depth
	s.Grams = append([]string(nil), s.Grams...)
	steps = append(steps, s)
	for _, kid := range t.kids {
		steps = flat(steps, kid, depth+1)
	}
	return steps
}
