package index

import (
	"fmt"
	"math/rand"
	"slices"
	"strings"
	"testing"

	"roster/api"
	"roster/attr"
	"roster/match"
)

func at(canon string, values ...string) api.Attr {
	return api.Attr{Desc: "desc of " + canon, Canon: canon, Values: values}
}

func with(attrs ...api.Attr) api.Entry {
	return api.Entry{Attrs: attrs}
}

// four are the chapter's entries.
func four() []api.Entry {
	return []api.Entry{
		with(at("cn", "Ann Lee")),
		with(at("cn", "ann lee"), at("sn", "Lee")),
		with(at("x-odd", "Ann")),
		with(at("cn;lang-de", "Anna"), at("uidnumber", "x")),
	}
}

// covered is what attr.Covers says, kept from call to call: the slow answers ask it over and over.
var covered = map[[2]string]bool{}

func covers(desc, canon string) bool {
	both := [2]string{desc, canon}
	if _, known := covered[both]; !known {
		covered[both] = attr.Covers(desc, canon)
	}
	return covered[both]
}

// isGram is the chapter's word.
func isGram(gram, text string) bool {
	return len(gram) == 3 && strings.Contains(text, gram)
}

// slowGrams goes through all texts of three bytes that could be meant, each put ahead of the first that isn't below it.
func slowGrams(text string) []string {
	var out []string
	for i := range text {
		for j := i; j <= len(text); j++ {
			gram := text[i:j]
			if !isGram(gram, text) || slices.Contains(out, gram) {
				continue
			}
			place := 0
			for place < len(out) && out[place] < gram {
				place++
			}
			out = slices.Insert(out, place, gram)
		}
	}
	return out
}

// slowNumbers are the numbers of the entries of which one attribute fulfils what is asked.
func slowNumbers(entries []api.Entry, asked func(api.Attr) bool) []int {
	var out []int
	for number, e := range entries {
		if slices.ContainsFunc(e.Attrs, asked) {
			out = append(out, number)
		}
	}
	return out
}

// indexed tells whether an attribute has an indexed value with a normal form that fulfils what is asked.
func indexed(a api.Attr, asked func(normal string) bool) bool {
	return slices.ContainsFunc(a.Values, func(value string) bool {
		normal, ok := match.Normal(attr.Syntax(a.Canon), value)
		return ok && asked(normal)
	})
}

func slowPresent(entries []api.Entry, desc string) []int {
	return slowNumbers(entries, func(a api.Attr) bool { return len(a.Values) > 0 && covers(desc, a.Canon) })
}

func slowEqual(entries []api.Entry, desc, normal string) []int {
	return slowNumbers(entries, func(a api.Attr) bool {
		return covers(desc, a.Canon) && indexed(a, func(n string) bool { return n == normal })
	})
}

func slowGram(entries []api.Entry, desc, gram string) []int {
	return slowNumbers(entries, func(a api.Attr) bool {
		return covers(desc, a.Canon) && indexed(a, func(n string) bool { return isGram(gram, n) })
	})
}

func slowHolding(entries []api.Entry, desc string, grams []string) []int {
	if len(grams) == 0 {
		return slowPresent(entries, desc)
	}
	var out []int
	for number := range entries {
		missing := slices.ContainsFunc(grams, func(gram string) bool {
			return !slices.Contains(slowGram(entries, desc, gram), number)
		})
		if !missing {
			out = append(out, number)
		}
	}
	return out
}

// slowDescs and slowNormals take what comes, then sort.
func slowDescs(entries []api.Entry) []string {
	var out []string
	for _, e := range entries {
		for _, a := range e.Attrs {
			if len(a.Values) > 0 {
				out = append(out, a.Canon)
			}
		}
	}
	slices.Sort(out)
	return slices.Compact(out)
}

func slowNormals(entries []api.Entry, canon string) []string {
	var out []string
	for _, e := range entries {
		for _, a := range e.Attrs {
			if a.Canon == canon {
				indexed(a, func(normal string) bool { out = append(out, normal); return false })
			}
		}
	}
	slices.Sort(out)
	return slices.Compact(out)
}

// term is what Terms gives at once.
type term struct {
	normal  string
	numbers []int
}

func sameTerm(a, b term) bool {
	return a.normal == b.normal && slices.Equal(a.numbers, b.numbers)
}

func slowTerms(entries []api.Entry, canon string) []term {
	var out []term
	for _, normal := range slowNormals(entries, canon) {
		out = append(out, term{normal, slowNumbers(entries, func(a api.Attr) bool {
			return a.Canon == canon && indexed(a, func(n string) bool { return n == normal })
		})})
	}
	return out
}

// frontTerms takes what Terms gives, and stops behind so many.
func frontTerms(x *Index, canon string, most int) []term {
	var out []term
	if most == 0 {
		return nil
	}
	for normal, numbers := range x.Terms(canon) {
		out = append(out, term{normal, numbers})
		if len(out) == most {
			break
		}
	}
	return out
}

func allTerms(x *Index, canon string) []term {
	return frontTerms(x, canon, -1)
}

func holdNumbers(t *testing.T, what string, got, want []int) {
	t.Helper()
	if !slices.Equal(got, want) {
		t.Fatalf("%s = %d, want %d", what, got, want)
	}
}

func holdTexts(t *testing.T, what string, got, want []string) {
	t.Helper()
	if !slices.Equal(got, want) {
		t.Fatalf("%s = %q, want %q", what, got, want)
	}
}

func holdTerms(t *testing.T, x *Index, canon string, want ...term) {
	t.Helper()
	if got := allTerms(x, canon); !slices.EqualFunc(got, want, sameTerm) {
		t.Fatalf("Terms(%q) gives %v, want %v", canon, got, want)
	}
}

// asked are the texts with which the calls of an index are asked.
type asked struct {
	descs, normals, grams []string
}

// askedOf are descriptions that cover what the entries have, or don't; their values and normal forms; the grams of these; and texts that are none of it.
func askedOf(entries []api.Entry) asked {
	q := asked{
		descs:   []string{"", "9", "name", "NAME;lang-de", "cn", "commonName", "2.5.4.3", "CN;Lang-DE", "cn;", "distinguishedName", "l", "mail", "x-odd", "X-Odd;a", "no-such"},
		normals: []string{"", " ", "no such value"},
		grams:   []string{"", "a", "an", "no!", "anna", "  "},
	}
	for _, e := range entries {
		for _, a := range e.Attrs {
			q.descs = append(q.descs, a.Canon, strings.ToUpper(a.Canon))
			for _, value := range a.Values {
				q.normals = append(q.normals, value, strings.ToUpper(value))
				q.grams = append(q.grams, slowGrams(value)...)
			}
			indexed(a, func(normal string) bool {
				q.normals = append(q.normals, normal, normal[:len(normal)/2])
				q.grams = append(q.grams, slowGrams(normal)...)
				return false
			})
		}
	}
	for _, list := range []*[]string{&q.descs, &q.normals, &q.grams} {
		slices.Sort(*list)
		*list = slices.Compact(*list)
	}
	return q
}

// some are at most so many of each kind of these texts.
func (q asked) some(r *rand.Rand, most int) asked {
	drawn := func(texts []string) []string {
		texts = slices.Clone(texts)
		r.Shuffle(len(texts), func(i, j int) { texts[i], texts[j] = texts[j], texts[i] })
		return texts[:min(most, len(texts))]
	}
	return asked{drawn(q.descs), drawn(q.normals), drawn(q.grams)}
}

// holdIndex holds the index of these entries, asked all that there is to ask, to the chapter told a second time.
func holdIndex(t *testing.T, entries []api.Entry) {
	t.Helper()
	holdAsked(t, entries, askedOf(entries))
}

func holdAsked(t *testing.T, entries []api.Entry, q asked) {
	t.Helper()
	x := Build(entries)
	if x.Size() != len(entries) {
		t.Fatalf("Size() = %d, want %d", x.Size(), len(entries))
	}
	holdTexts(t, "Descs()", x.Descs(), slowDescs(entries))
	for i, desc := range q.descs {
		holdTerms(t, x, desc, slowTerms(entries, desc)...)
		holdNumbers(t, fmt.Sprintf("Present(%q)", desc), x.Present(desc), slowPresent(entries, desc))
		holdNumbers(t, fmt.Sprintf("Holding(%q, none)", desc), x.Holding(desc, nil), slowPresent(entries, desc))
		for _, normal := range q.normals {
			holdNumbers(t, fmt.Sprintf("Equal(%q, %q)", desc, normal), x.Equal(desc, normal), slowEqual(entries, desc, normal))
		}
		for j, gram := range q.grams {
			want := slowGram(entries, desc, gram)
			holdNumbers(t, fmt.Sprintf("Gram(%q, %q)", desc, gram), x.Gram(desc, gram), want)
			holdNumbers(t, fmt.Sprintf("Holding(%q, %q)", desc, gram), x.Holding(desc, []string{gram}), want)
			two := []string{gram, q.grams[(i+j)%len(q.grams)]}
			holdNumbers(t, fmt.Sprintf("Holding(%q, %q)", desc, two), x.Holding(desc, two), slowHolding(entries, desc, two))
		}
	}
}

// canons are Canons of all kinds: known and not, with sub types and options, and texts that are no canonical description.
func canons() []string {
	return []string{"cn", "sn", "name", "cn;lang-de", "cn;a;lang-de", "sn;lang-de", "l", "c-l", "uidnumber", "mail", "member", "seealso", "userpassword", "x-odd", "x-odd;a", "CN", "commonName", "2.5.4.3", "cn;b;a", "", "9", "cn;", "c n", "createtimestamp", "postaladdress", "telephonenumber"}
}

func values() []string {
	return []string{"", " ", "a", "an", "Ann", "ann", " ANN  Lee ", "ann lee", "anana", "Lee", "12", "-12", "007", "\xffabc", "ab\x00c", "o=x", "O=X", "cn=a,o=x", "+1 234-56", "20240229120000Z", "1 High  St$Oslo", "aaaaaa", "\xc3\xa9t\xc3\xa9"}
}

func pick(r *rand.Rand, texts []string) string {
	return texts[r.Intn(len(texts))]
}

// someEntries are so many entries with a few attributes each, drawn from a few Canons and values, so that they meet.
func someEntries(r *rand.Rand, count int) []api.Entry {
	entries := make([]api.Entry, count)
	for i := range entries {
		for range r.Intn(5) {
			a := at(pick(r, canons()))
			for range r.Intn(4) {
				a.Values = append(a.Values, pick(r, values()))
			}
			entries[i].Attrs = append(entries[i].Attrs, a)
		}
	}
	return entries
}
