package plan

import "roster/api"

// deepest is the greatest Depth of a step.
const deepest = 2 * api.MaxFilter

// shape is what a step of an Op may have, and the word by which it is told.
type shape struct {
	word                    string
	desc, text, grams, kids bool
}

var shapes = [...]shape{
	api.PlanAll:   {word: "all"},
	api.PlanNone:  {word: "none"},
	api.PlanValue: {word: "value", desc: true, text: true},
	api.PlanHas:   {word: "has", desc: true},
	api.PlanGrams: {word: "grams", desc: true, grams: true},
	api.PlanMeet:  {word: "meet", kids: true},
	api.PlanJoin:  {word: "join", kids: true},
	api.PlanRest:  {word: "rest", kids: true},
	api.PlanFrom:  {word: "from", desc: true, text: true},
	api.PlanUpTo:  {word: "upto", desc: true, text: true},
}

// isPlan looks at the kids of a PlanRest last: they can be told once all depths are known to be sound.
func isPlan(steps []api.Step) bool {
	for place, s := range steps {
		if !sound(s) || !follows(steps, place) {
			return false
		}
	}
	for place, s := range steps {
		if s.Op == api.PlanRest && kidCount(steps[place:]) != 1 {
			return false
		}
	}
	return len(steps) > 0
}

// sound tells whether a step's Op is one, and has what it asks for and nothing else.
func sound(s api.Step) bool {
	if s.Op < api.PlanAll || s.Op > api.PlanUpTo {
		return false
	}
	may := shapes[s.Op]
	return (may.desc || s.Desc == "") && (may.text || s.Text == "") && may.grams == (len(s.Grams) > 0)
}

// follows tells whether the Depth of the step at a place may stand there, if those ahead of it may, and their Ops are some.
func follows(steps []api.Step, place int) bool {
	depth := steps[place].Depth
	if place == 0 {
		return depth == 1
	}
	ahead := steps[place-1]
	if depth == ahead.Depth+1 {
		return shapes[ahead.Op].kids && depth <= deepest
	}
	return 2 <= depth && depth <= ahead.Depth
}

// whole is the front of the steps that is one plan: the first, with all that stands beneath it.
func whole(steps []api.Step) []api.Step {
	end := 1
	for end < len(steps) && steps[end].Depth > steps[0].Depth {
		end++
	}
	return steps[:end]
}

// overKids hands each kid of the first step to do, with all that stands beneath it, in their order, as long as do wants more.
func overKids(steps []api.Step, do func(kid []api.Step) bool) {
	rest := whole(steps)[1:]
	for len(rest) > 0 {
		kid := whole(rest)
		if !do(kid) {
			return
		}
		rest = rest[len(kid):]
	}
}

func kidCount(steps []api.Step) int {
	count := 0
	overKids(steps, func([]api.Step) bool {
		count++
		return true
	})
	return count
}
