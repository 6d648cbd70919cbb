package view

import (
	"fmt"
	"iter"
	"slices"
	"strings"
	"testing"

	"roster/api"
)

// holdPageOf holds a page by the initials of its entries.
func holdPageOf(t *testing.T, v *View, q api.Search, keys []api.SortKey, size int, cookie, want, next string, code api.Code, errno api.Errno) {
	t.Helper()
	found, n, result, err := v.Page(q, keys, size, cookie)
	if initials(found) != want || n != next || result != (api.Result{Code: code}) || err != errno {
		t.Errorf("Page(limit %d, %+v, %d, %q) = %s, %q, %+v, %d, want %s, %q, %d, %d", q.SizeLimit, keys, size, cookie, initials(found), n, result, err, want, next, code, errno)
	}
}

// P22.6: the chapter's examples.
func TestPageExamples(t *testing.T) {
	v := fiveView(t)
	for _, c := range []struct {
		limit, size  int
		cookie, want string
		next         string
		code         api.Code
		err          api.Errno
	}{
		{0, 3, "", "ceb", "1", api.Success, api.OK},
		{0, 3, "1", "d", "", api.Success, api.OK},
		{0, 3, "3", "", "", 0, api.ErrCookie},
		{0, 3, "0", "", "", 0, api.ErrCookie},
		{0, 3, "9", "", "", 0, api.ErrCookie},
		{0, 3, "01", "", "", 0, api.ErrCookie},
		{0, 3, "x", "", "", 0, api.ErrCookie},
		{0, 0, "", "", "", 0, api.ErrPageSize},
		{0, 4, "", "cebd", "", api.Success, api.OK},
		{2, 1, "2", "e", "", api.SizeLimitExceeded, api.OK},
		{2, 1, "", "c", "2", api.Success, api.OK},
		{2, 1, "4", "", "", 0, api.ErrCookie},
		{2, 1, "1", "", "", 0, api.ErrCookie},
	} {
		holdPageOf(t, v, kids(c.limit), by("sn"), c.size, c.cookie, c.want, c.next, c.code, c.err)
	}
}

// P22.6: each error ahead of those behind it, with nothing else told.
func TestPageErrors(t *testing.T) {
	v := fiveView(t)
	for _, size := range []int{-1 << 63, -1, 0, 1, 5} {
		for _, base := range []string{"o=x", "o=y", "x"} {
			for _, cookie := range []string{"", "1", "3", "x"} {
				q := kids(0)
				q.Base = base
				holdPageOf(t, v, q, by("foo"), size, cookie, "", "", 0, api.ErrSortKey)
				holdPageOf(t, v, q, by("sn", "mail"), size, cookie, "", "", 0, api.ErrSortRule)
				if size < 1 {
					holdPageOf(t, v, q, by("sn"), size, cookie, "", "", 0, api.ErrPageSize)
					holdPageOf(t, v, q, nil, size, cookie, "", "", 0, api.ErrPageSize)
				}
			}
		}
	}
	holdPageOf(t, v, kids(0), by("sn"), 1, "3", "", "", 0, api.ErrCookie)
}

// P22.6: sizes at, below and above the number of what is left.
func TestPageSizes(t *testing.T) {
	v := fiveView(t)
	order, numbers := "cebxd", "24103"
	for begin := range order {
		cookie := ""
		if begin > 0 {
			cookie = numbers[begin-1 : begin]
		}
		for _, size := range []int{1, 2, 3, 4, 5, 6, 1 << 31, 1 << 32, 1<<63 - 1} {
			end, next := len(order), ""
			if size < len(order)-begin {
				end = begin + size
				next = numbers[end-1 : end]
			}
			holdPageOf(t, v, whole(), by("sn"), size, cookie, order[begin:end], next, api.Success, api.OK)
		}
	}
}

// P22.6: with a limit that cuts, S ends at it: its result goes with the page that ends there, with the others Success.
func TestPageLimits(t *testing.T) {
	v := fiveView(t)
	order, numbers := "cebxd", "24103"
	for _, limit := range []int{-1, 0, 1, 2, 3, 4, 5, 6} {
		last, code := 5, api.Success
		if limit > 0 && limit < 5 {
			last, code = limit, api.SizeLimitExceeded
		}
		q := whole()
		q.SizeLimit = limit
		for place := range 5 {
			cookie := numbers[place : place+1]
			if place >= last-1 {
				holdPageOf(t, v, q, by("sn"), 1, cookie, "", "", 0, api.ErrCookie)
				continue
			}
			holdPageOf(t, v, q, by("sn"), 9, cookie, order[place+1:last], "", code, api.OK)
			if place+2 < last {
				holdPageOf(t, v, q, by("sn"), 1, cookie, order[place+1:place+2], numbers[place+1:place+2], api.Success, api.OK)
			} else {
				holdPageOf(t, v, q, by("sn"), 1, cookie, order[place+1:last], "", code, api.OK)
			}
		}
		holdPageOf(t, v, q, by("sn"), last, "", order[:last], "", code, api.OK)
		if last > 1 {
			holdPageOf(t, v, q, by("sn"), last-1, "", order[:last-1], numbers[last-2:last-1], api.Success, api.OK)
		}
	}
}

// P22.6: what is no number of an entry of S ahead of its last is refused, however near it comes to one.
func TestNoCookies(t *testing.T) {
	v := fiveView(t)
	for _, cookie := range []string{
		"3", "0", "5", "9", "10", "01", "02", "04", "001", "00", "-1", "-2", "+1", "+2", "-0", "+0", " 1", "1 ", "\t1", "1\n", " ", "1.0", "1e0", "0x1", "0b1", "0o1", "1_0", "x", "1x", "x1", "11", "1,2", "\x00", "1\x00", "\x001", "\xff", "\u0661", "\uff11",
		"4294967297", "4294967298", "18446744073709551617", "18446744073709551618", "9223372036854775807", "9223372036854775808", "-9223372036854775808", "99999999999999999999", strings.Repeat("1", 1000), strings.Repeat("0", 100) + "1", "cn=b,o=x", "b",
	} {
		for _, size := range []int{1, 3, 100} {
			holdPageOf(t, v, kids(0), by("sn"), size, cookie, "", "", 0, api.ErrCookie)
		}
	}
	// The entry 0 is one of S here, and not the last: its cookie is the digit alone.
	holdPageOf(t, v, whole(), by("sn"), 1, "0", "d", "", api.Success, api.OK)
	for _, cookie := range []string{"00", "-0", "+0", "x", " 0", "0 ", "0\x00"} {
		holdPageOf(t, v, whole(), by("sn"), 1, cookie, "", "", 0, api.ErrCookie)
	}
}

// P22.6: every text of up to two bytes of some, and every byte alone, by what it says.
func TestShortCookies(t *testing.T) {
	v := fiveView(t)
	behind := map[string]string{"": "cebd", "2": "ebd", "4": "bd", "1": "d"}
	hold := func(cookie string) {
		t.Helper()
		want, known := behind[cookie]
		if !known {
			holdPageOf(t, v, kids(0), by("sn"), 9, cookie, "", "", 0, api.ErrCookie)
			return
		}
		holdPageOf(t, v, kids(0), by("sn"), 9, cookie, want, "", api.Success, api.OK)
	}
	hold("")
	for b := range 256 {
		hold(string([]byte{byte(b)}))
	}
	some := "0123456789+-_ .x\x00\xff"
	for i := range len(some) {
		for j := range len(some) {
			hold(some[i:i+1] + some[j:j+1])
		}
	}
}

// P22.6: cookies of more than one digit.
func TestLongerCookies(t *testing.T) {
	list := []api.Entry{made(t, "o=x")}
	for i := range 120 {
		list = append(list, made(t, fmt.Sprintf("cn=%03d,o=x", i), fmt.Sprintf("uidNumber: %d", -i)))
	}
	v := viewOf(t, list)
	q := api.Search{Base: "o=x", Scope: api.SingleLevel, Filter: every(), Attributes: []string{"1.1"}}
	// By uidNumber the entry 120 comes first, the entry 1 last.
	cookie, seen := "", 0
	for size := 1; ; size++ {
		found, next, result, err := v.Page(q, by("uidNumber"), size, cookie)
		if err != api.OK || result != (api.Result{}) {
			t.Fatalf("behind %q: %+v, %d", cookie, result, err)
		}
		for _, f := range found {
			if want := fmt.Sprintf("cn=%03d,o=x", 119-seen); f.Name != want {
				t.Fatalf("the entry %d is %s, want %s", seen, f.Name, want)
			}
			seen++
		}
		if next == "" {
			break
		}
		if want := fmt.Sprint(121 - seen); next != want {
			t.Fatalf("behind %d entries the cookie is %q, want %q", seen, next, want)
		}
		cookie = next
	}
	if seen != 120 {
		t.Errorf("%d entries", seen)
	}
}

// P22.6: a cookie of another search or of other keys is taken just if it names an entry that goes on here.
func TestForeignCookies(t *testing.T) {
	v := fiveView(t)
	_, next, _, _ := v.Page(whole(), by("-sn"), 1, "")
	if next != "0" {
		t.Fatalf("the next cookie is %q", next)
	}
	holdPageOf(t, v, kids(0), by("sn"), 1, next, "", "", 0, api.ErrCookie)
	holdPageOf(t, v, whole(), by("sn"), 1, next, "d", "", api.Success, api.OK)
	holdPageOf(t, v, whole(), nil, 2, next, "bc", "2", api.Success, api.OK)
	_, next, _, _ = v.Page(kids(0), by("sn"), 3, "")
	holdPageOf(t, v, kids(0), by("-sn"), 1, next, "c", "2", api.Success, api.OK)
	holdPageOf(t, v, kids(2), by("uidNumber"), 1, next, "d", "", api.SizeLimitExceeded, api.OK)
	q := whole()
	q.Filter = parsed(t, "(cn=b)")
	holdPageOf(t, v, q, by("sn"), 1, next, "", "", 0, api.ErrCookie)
}

// P22.6, P22.7: where nothing is found there is one page of nothing, and Pages gives none.
func TestEmptyAnswer(t *testing.T) {
	v := fiveView(t)
	for _, change := range []func(q *api.Search){
		func(q *api.Search) { q.Filter = never() },
		func(q *api.Search) { q.Scope = 7 },
		func(q *api.Search) { q.Base = "cn=b,o=x" },
	} {
		q := kids(1)
		change(&q)
		for _, size := range []int{1, 2, 1<<63 - 1} {
			holdPageOf(t, v, q, by("sn"), size, "", "", "", api.Success, api.OK)
			for _, cookie := range []string{"0", "1", "x"} {
				holdPageOf(t, v, q, by("sn"), size, cookie, "", "", 0, api.ErrCookie)
			}
			holdPages(t, v, q, by("sn"), size, nil)
		}
	}
}

// toldPagesOf are pages as initials, each with a | behind it.
func toldPagesOf(seq iter.Seq[[]api.Found]) string {
	out := ""
	for page := range seq {
		out += initials(page) + "|"
	}
	return out
}

// P22.7: the pages of each size.
func TestPagesOfEachSize(t *testing.T) {
	v := fiveView(t)
	for size, want := range map[int]string{
		-1 << 63: "", -1: "", 0: "", 1: "c|e|b|x|d|", 2: "ce|bx|d|", 3: "ceb|xd|", 4: "cebx|d|", 5: "cebxd|", 6: "cebxd|", 1 << 40: "cebxd|", 1<<63 - 1: "cebxd|",
	} {
		seq := v.Pages(whole(), by("sn"), size)
		for range 3 {
			if got := toldPagesOf(seq); got != want {
				t.Errorf("Pages of size %d: %s, want %s", size, got, want)
			}
		}
	}
	for limit, want := range map[int]string{-1: "ce|bx|d|", 0: "ce|bx|d|", 1: "c|", 2: "ce|", 3: "ce|b|", 4: "ce|bx|", 5: "ce|bx|d|", 6: "ce|bx|d|"} {
		q := whole()
		q.SizeLimit = limit
		if got := toldPagesOf(v.Pages(q, by("sn"), 2)); got != want {
			t.Errorf("Pages with the limit %d: %s, want %s", limit, got, want)
		}
	}
}

// P22.7: each error, and a base that is refused, give no page.
func TestNoPages(t *testing.T) {
	v := fiveView(t)
	missing, bad := kids(0), kids(0)
	missing.Base, bad.Base = "cn=z,o=x", "x"
	for name, seq := range map[string]iter.Seq[[]api.Found]{
		"key":     v.Pages(kids(0), by("foo"), 1),
		"rule":    v.Pages(kids(0), by("sn", "mail"), 1),
		"size":    v.Pages(kids(0), by("sn"), 0),
		"both":    v.Pages(kids(0), by("foo"), -1),
		"missing": v.Pages(missing, by("sn"), 1),
		"bad":     v.Pages(bad, nil, 1),
	} {
		for range 2 {
			if got := len(slices.Collect(seq)); got != 0 {
				t.Errorf("%s: %d pages", name, got)
			}
		}
	}
}

// P22.7: stopped behind any page it gives nothing more; gone through again it begins anew.
func TestPagesStopped(t *testing.T) {
	v := fiveView(t)
	for size := 1; size < 7; size++ {
		seq := v.Pages(whole(), by("sn"), size)
		all := slices.Collect(seq)
		for stop := 1; stop <= len(all); stop++ {
			var got [][]api.Found
			seq(func(page []api.Found) bool {
				got = append(got, page)
				return len(got) < stop
			})
			if toldPages(got) != toldPages(all[:stop]) {
				t.Errorf("size %d, stopped behind %d: %s", size, stop, toldPages(got))
			}
			got = nil
			for page := range seq {
				if got = append(got, page); len(got) == stop {
					break
				}
			}
			if toldPages(got) != toldPages(all[:stop]) {
				t.Errorf("size %d, broken off behind %d: %s", size, stop, toldPages(got))
			}
			if again := slices.Collect(seq); toldPages(again) != toldPages(all) {
				t.Errorf("size %d, again: %s", size, toldPages(again))
			}
		}
	}
}

// P22.7, P0.1: gone through inside itself, each time from the beginning by itself; two in turns don't see each other.
func TestPagesInsideThemselves(t *testing.T) {
	v := fiveView(t)
	for size := 1; size < 7; size++ {
		seq := v.Pages(whole(), by("sn"), size)
		want := toldPagesOf(seq)
		outer := ""
		for page := range seq {
			outer += initials(page) + "|"
			for range seq {
				break
			}
			if inner := toldPagesOf(seq); inner != want {
				t.Errorf("size %d, inside: %s, want %s", size, inner, want)
			}
		}
		if outer != want {
			t.Errorf("size %d, outside: %s, want %s", size, outer, want)
		}
		next, stop := iter.Pull(seq)
		other, stopOther := iter.Pull(seq)
		turns := ""
		for {
			a, okA := next()
			b, okB := other()
			if toldFound(a) != toldFound(b) || okA != okB {
				t.Errorf("size %d, in turns: %s and %s", size, toldFound(a), toldFound(b))
			}
			if !okA {
				break
			}
			turns += initials(a) + "|"
		}
		if turns != want {
			t.Errorf("size %d, in turns: %s, want %s", size, turns, want)
		}
		stop()
		stopOther()
	}
}

// What follows: the pages joined are what Sorted tells, for every size and for sizes that change; the last has Sorted's result, the others Success.
func TestPagesJoined(t *testing.T) {
	m := newMaker(229)
	for range 80 {
		tree := treeOf(t, m.entries(m.Intn(25)))
		v := New(tree)
		q, keys := m.search(tree), m.soundKeys(3)
		sorted, result, err := v.Sorted(q, keys)
		if err != api.OK {
			t.Fatalf("Sorted by %+v: %d", keys, err)
		}
		for round := 1; round < len(sorted)+4; round++ {
			var pages []api.Found
			for page := range v.Pages(q, keys, round) {
				if len(page) == 0 || len(page) > round {
					t.Fatalf("a page of %d, size %d", len(page), round)
				}
				pages = append(pages, page...)
			}
			if toldFound(pages) != toldFound(sorted) {
				t.Fatalf("pages of %d: %s, want %s", round, toldFound(pages), toldFound(sorted))
			}
			pages = nil
			for cookie := ""; ; {
				page, next, r, err := v.Page(q, keys, 1+m.Intn(round), cookie)
				if err != api.OK || next != "" && r != (api.Result{}) || next == "" && r != result {
					t.Fatalf("behind %q: %q, %+v, %d", cookie, next, r, err)
				}
				pages = append(pages, page...)
				if next == "" {
					break
				}
				cookie = next
			}
			if toldFound(pages) != toldFound(sorted) {
				t.Fatalf("pages of sizes that change: %s, want %s", toldFound(pages), toldFound(sorted))
			}
		}
	}
}
