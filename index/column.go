package index

import (
	"maps"
	"slices"

	"roster/attr"
	"roster/match"
	"roster/posting"
)

const gramLength = 3

// column is what stands beneath one Canon: rising lists of the numbers of entries. Once it is made it is only read.
type column struct {
	holders []int // those with a value of any kind
	normals []string
	terms   map[string][]int // by normal form
	grams   map[string][]int
}

// columnOf takes what the entries have beneath a Canon, in the order of their numbers.
func columnOf(canon string, held []holding) column {
	c := column{terms: map[string][]int{}}
	syntax := attr.Syntax(canon)
	for _, h := range held {
		c.holders = noted(c.holders, h.number)
		for _, value := range h.values {
			if normal, ok := match.Normal(syntax, value); ok {
				c.terms[normal] = noted(c.terms[normal], h.number)
			}
		}
	}
	c.normals = slices.Sorted(maps.Keys(c.terms))
	c.grams = gramsOf(c.terms)
	return c
}

// noted puts a number behind a rising list, unless it is there. Numbers come in their order, so it could only be the last one.
func noted(numbers []int, number int) []int {
	if len(numbers) > 0 && numbers[len(numbers)-1] == number {
		return numbers
	}
	return append(numbers, number)
}

// gramsOf goes by the terms and not by the values: a term that many entries have is cut up once.
func gramsOf(terms map[string][]int) map[string][]int {
	found := map[string][]int{}
	for normal, numbers := range terms {
		for _, gram := range Grams(normal) {
			found[gram] = append(found[gram], numbers...)
		}
	}
	grams := make(map[string][]int, len(found))
	for gram, numbers := range found {
		grams[gram] = posting.Of(numbers)
	}
	return grams
}

// union joins one list of each column, in new memory.
func union(columns []column, pick func(column) []int) []int {
	lists := make([][]int, 0, len(columns))
	for _, c := range columns {
		lists = append(lists, pick(c))
	}
	return posting.Union(lists...)
}

func present(columns []column) []int {
	return union(columns, func(c column) []int { return c.holders })
}

func withGram(columns []column, gram string) []int {
	return union(columns, func(c column) []int { return c.grams[gram] })
}
