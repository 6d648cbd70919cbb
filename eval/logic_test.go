package eval

import (
	"math"
	"slices"
	"testing"

	"roster/api"
)

// someTruths are the three values, and numbers that are none.
func someTruths() []api.Truth {
	return []api.Truth{F, U, T, -1, 3, -2, 7, math.MinInt, math.MaxInt}
}

// P14.1: the chapter's examples.
func TestLogicExamples(t *testing.T) {
	for _, c := range []struct {
		got, want api.Truth
		call      string
	}{
		{And(), T, "And()"}, {Or(), F, "Or()"},
		{And(T, U, F), F, "And(T, U, F)"}, {And(T, U), U, "And(T, U)"},
		{Or(U, F), U, "Or(U, F)"}, {Or(U, T), T, "Or(U, T)"},
		{Not(U), U, "Not(U)"}, {Not(7), U, "Not(7)"}, {And(7), U, "And(7)"},
		{Not(T), F, "Not(T)"}, {Not(F), T, "Not(F)"}, {Or(7), U, "Or(7)"},
		{And(T), T, "And(T)"}, {Or(T), T, "Or(T)"}, {And(F), F, "And(F)"}, {Or(F), F, "Or(F)"},
		{And(7, T), U, "And(7, T)"}, {Or(-1, F), U, "Or(-1, F)"}, {And(-7, F), F, "And(-7, F)"}, {Or(7, T), T, "Or(7, T)"},
	} {
		if c.got != c.want {
			t.Errorf("%s = %d, want %d", c.call, c.got, c.want)
		}
	}
}

func holdLogic(t *testing.T, ts ...api.Truth) {
	t.Helper()
	before := slices.Clone(ts)
	if got, want := And(ts...), slowAnd(ts...); got != want {
		t.Errorf("And(%d) = %d, want %d", ts, got, want)
	}
	if got, want := Or(ts...), slowOr(ts...); got != want {
		t.Errorf("Or(%d) = %d, want %d", ts, got, want)
	}
	if !slices.Equal(ts, before) {
		t.Errorf("%d became %d", before, ts)
	}
}

// P14.1: all rows of up to four values, and of numbers that are none.
func TestAllShortRows(t *testing.T) {
	holdLogic(t)
	holdLogic(t, []api.Truth{}...)
	rows := [][]api.Truth{nil}
	for range 4 {
		var longer [][]api.Truth
		for _, row := range rows {
			for _, next := range someTruths() {
				longer = append(longer, append(slices.Clone(row), next))
			}
		}
		for _, row := range longer {
			holdLogic(t, row...)
		}
		rows = longer
	}
}

// P14.1
func TestNot(t *testing.T) {
	for _, one := range someTruths() {
		if got, want := Not(one), slowNot(one); got != want {
			t.Errorf("Not(%d) = %d, want %d", one, got, want)
		}
	}
}

// P14.1: long rows, with the one that decides at each end.
func TestLongRows(t *testing.T) {
	row := slices.Repeat([]api.Truth{U}, 100000)
	for _, one := range someTruths() {
		for _, place := range []int{0, len(row) / 2, len(row) - 1} {
			row[place] = one
			holdLogic(t, row...)
			row[place] = U
		}
	}
}
