package plan

import (
	"roster/api"
	"roster/attr"
	"roster/index"
	"roster/match"
	"roster/posting"
)

// given tells the numbers that the first step gives, rising, in new memory.
func given(x *index.Index, steps []api.Step) []int {
	switch s := steps[0]; s.Op {
	case api.PlanAll:
		return every(x)
	case api.PlanValue:
		return x.Equal(s.Desc, s.Text)
	case api.PlanHas:
		return x.Present(s.Desc)
	case api.PlanGrams:
		return x.Holding(s.Desc, s.Grams)
	case api.PlanMeet:
		return met(x, steps)
	case api.PlanJoin:
		return joined(x, steps)
	case api.PlanRest:
		return posting.Minus(every(x), given(x, steps[1:]))
	case api.PlanFrom:
		return within(x, s, func(order int) bool { return order >= 0 })
	case api.PlanUpTo:
		return within(x, s, func(order int) bool { return order <= 0 })
	}
	return nil
}

func every(x *index.Index) []int {
	numbers := make([]int, x.Size())
	for number := range numbers {
		numbers[number] = number
	}
	return numbers
}

// met asks no further kid once one gives nothing.
func met(x *index.Index, steps []api.Step) []int {
	var lists [][]int
	overKids(steps, func(kid []api.Step) bool {
		list := given(x, kid)
		lists = append(lists, list)
		return len(list) > 0
	})
	if len(lists) == 0 {
		return every(x)
	}
	return posting.Meet(lists...)
}

func joined(x *index.Index, steps []api.Step) []int {
	var lists [][]int
	overKids(steps, func(kid []api.Step) bool {
		lists = append(lists, given(x, kid))
		return true
	})
	return posting.Union(lists...)
}

// within gives the entries with a value whose order against the step's Text is wanted. Where the syntax has no order Compare tells 0 of any two: there nothing is given.
func within(x *index.Index, s api.Step, wanted func(order int) bool) []int {
	syntax := attr.Syntax(s.Desc)
	if !match.Ordered(syntax) {
		return nil
	}
	var numbers []int
	for _, canon := range x.Descs() {
		if !attr.Covers(s.Desc, canon) {
			continue
		}
		for normal, having := range x.Terms(canon) {
			if wanted(match.Compare(syntax, normal, s.Text)) {
				numbers = append(numbers, having...)
			}
		}
	}
	return posting.Of(numbers)
}
