package patch

import (
	"fmt"
	"regexp"
	"slices"
	"strconv"
	"strings"
	"testing"

	"roster/api"
	"roster/attr"
	"roster/change"
	"roster/dit"
	"roster/dn"
	"roster/entry"
	"roster/ldif"
	"roster/match"
)

// told is a value as a text: what has another text is another value, but that nil and empty lists are the same.
func told(x any) string { return strings.ReplaceAll(fmt.Sprintf("%#v", x), "(nil)", "{}") }

// lower folds byte by byte: strings.ToLower would turn letters beyond ASCII as well.
func lower(s string) string {
	out := []byte(s)
	for i, b := range out {
		if b >= 'A' && b <= 'Z' {
			out[i] = b + 32
		}
	}
	return string(out)
}

// entryTold does so of an entry, faster.
func entryTold(e api.Entry) string {
	out := strconv.AppendInt(nil, int64(e.Line), 10)
	out = strconv.AppendQuote(out, e.Name)
	for _, part := range e.Key {
		out = strconv.AppendQuote(append(out, '/'), part)
	}
	for _, a := range e.Attrs {
		out = strconv.AppendQuote(append(out, ' '), a.Desc)
		out = strconv.AppendQuote(out, a.Canon)
		for _, value := range a.Values {
			out = strconv.AppendQuote(append(out, ':'), value)
		}
	}
	return string(append(out, '\n'))
}

func entriesTold(entries []api.Entry) string {
	var out strings.Builder
	for _, e := range entries {
		out.WriteString(entryTold(e))
	}
	return out.String()
}

// The parts of trees and of changes.

// pairs are pairs of descriptions and values by turns.
func pairs(words ...string) []api.Pair {
	var out []api.Pair
	for pair := range slices.Chunk(words, 2) {
		out = append(out, api.Pair{Desc: pair[0], Value: pair[1]})
	}
	return out
}

// having is the entry that a record says: a name, and descriptions and values by turns. Its Line is made of its name's length: so lines are told apart.
func having(name string, words ...string) api.Entry {
	e, err := entry.Make(api.Record{Line: 100 + len(name), Name: name, Pairs: pairs(words...)})
	if err != api.OK {
		panic(fmt.Sprintf("%q is refused: %d", name, err))
	}
	return e
}

func at(desc, canon string, values ...string) api.Attr {
	return api.Attr{Desc: desc, Canon: canon, Values: values}
}

// odd is an entry as it is written here, whether its parts fit or not.
func odd(name, key string, attrs ...api.Attr) api.Entry {
	e := api.Entry{Line: 7, Name: name, Attrs: attrs}
	if key != "" {
		e.Key = strings.Split(key, "/")
	}
	return e
}

func grown(t testing.TB, entries ...api.Entry) *dit.Tree {
	t.Helper()
	tree, err, place := dit.Build(entries)
	if err != api.OK {
		t.Fatalf("no tree: %d, %d, of %s", err, place, told(entries))
	}
	return tree
}

// example is the tree T of the chapter's examples, its entries out of canonical order.
func example() []api.Entry {
	return []api.Entry{having("o=x", "o", "x"), having("ou=b,o=x", "ou", "b"), having("ou=a,o=x", "ou", "a"), having(one, "cn", "1", "sn", "Lee")}
}

const one = "cn=1,ou=a,o=x"

func added(name string, words ...string) api.ChangeRecord {
	return api.ChangeRecord{Kind: api.AddEntry, Name: name, Pairs: pairs(words...)}
}

func deleted(name string) api.ChangeRecord {
	return api.ChangeRecord{Kind: api.DeleteEntry, Name: name}
}

func changed(name string, changes ...api.Change) api.ChangeRecord {
	return api.ChangeRecord{Kind: api.ModifyEntry, Name: name, Changes: changes}
}

func to(kind int, desc string, values ...string) api.Change {
	return api.Change{Kind: kind, Desc: desc, Values: values}
}

// called is a renaming; a NewSuperior may stand behind.
func called(name, part string, deleteOld bool, superior ...string) api.ChangeRecord {
	c := api.ChangeRecord{Kind: api.RenameEntry, Name: name, NewRDN: part, DeleteOld: deleteOld}
	if len(superior) > 0 {
		c.NewSuperior, c.HasNewSuperior = superior[0], true
	}
	return c
}

// The entries of trees, told.

func entriesOf(t *dit.Tree) []api.Entry {
	var out []api.Entry
	for n := range t.Len() {
		out = append(out, t.Entry(n))
	}
	return out
}

// attrsTold is attributes as a short text: what differs in a Canon differs in it too, where that isn't the Desc folded.
func attrsTold(attrs []api.Attr) string {
	var out []string
	for _, a := range attrs {
		word := a.Desc
		if a.Canon != lower(a.Desc) {
			word += "(" + a.Canon + ")"
		}
		out = append(out, word+"["+strings.Join(a.Values, "|")+"]")
	}
	return strings.Join(out, " ")
}

// shown is a tree's entries, a line each.
func shown(t *dit.Tree) string {
	if t == nil {
		return "none"
	}
	var out strings.Builder
	for _, e := range entriesOf(t) {
		out.WriteString(e.Name + ": " + attrsTold(e.Attrs) + "\n")
	}
	return out.String()
}

// namesOf are the names of a tree's entries, with a slash between each two.
func namesOf(t *dit.Tree) string {
	if t == nil {
		return "none"
	}
	var out []string
	for _, e := range entriesOf(t) {
		out = append(out, e.Name)
	}
	return strings.Join(out, " / ")
}

// wholeTold is all that a tree says.
func wholeTold(t *dit.Tree) string {
	var out strings.Builder
	for n := range t.Len() {
		e := t.Entry(n)
		lo, hi := t.Span(n)
		out.WriteString(entryTold(e))
		for _, number := range append(t.Children(n), t.Place(n), t.Parent(n), lo, hi, t.Find(e.Key)) {
			out.WriteString(strconv.Itoa(number) + " ")
		}
	}
	return out.String()
}

// The chapter told a second time: on lists of entries in canonical order.

// equalValues is chapter 8's word of two values of a description.
func equalValues(canon, a, b string) bool {
	normalA, takenA := match.Normal(attr.Syntax(canon), a)
	normalB, takenB := match.Normal(attr.Syntax(canon), b)
	if takenA && takenB {
		return normalA == normalB
	}
	return takenA == takenB && a == b
}

func holds(canon string, values []string, value string) bool {
	return slices.ContainsFunc(values, func(v string) bool { return equalValues(canon, v, value) })
}

// slowValues are the values that count as those of a Canon.
func slowValues(attrs []api.Attr, canon string) []string {
	var out []string
	for _, a := range attrs {
		if a.Canon == canon {
			out = append(out, a.Values...)
		}
	}
	return out
}

// slowOwn are an entry's own pairs.
func slowOwn(name string) []api.AVA {
	parsed, err := dn.Parse(name)
	if err != nil || len(parsed) == 0 {
		return nil
	}
	return slices.DeleteFunc(slices.Clone(parsed[0]), func(p api.AVA) bool { return lower(p.Type) == "dn" })
}

func slowHasOwn(attrs []api.Attr, name string) bool {
	for _, p := range slowOwn(name) {
		canon, _, _ := attr.Canonical(p.Type)
		if !holds(canon, slowValues(attrs, canon), p.Value) {
			return false
		}
	}
	return true
}

// slowEmpty tells whether there is no value at all.
func slowEmpty(attrs []api.Attr) bool {
	for _, a := range attrs {
		if len(a.Values) != 0 {
			return false
		}
	}
	return true
}

func reserved(a api.Attr) bool {
	return slices.Contains([]string{"changetype", "control"}, lower(a.Desc))
}

// slowRight puts right; 219, if every attribute's Desc is a reserved word.
func slowRight(attrs []api.Attr) ([]api.Attr, api.Errno) {
	front := slices.IndexFunc(attrs, func(a api.Attr) bool { return !reserved(a) })
	if front < 0 {
		return nil, 219
	}
	return slices.Concat(attrs[front:front+1], attrs[:front], attrs[front+1:]), 0
}

var formOwn = regexp.MustCompile(`(?s)^((?:[^\\,]|\\.|\\\z)*)(?:,(.*))?\z`)

// slowCut is the own text of a name, and the rest.
func slowCut(name string) (string, string) {
	m := formOwn.FindStringSubmatch(name)
	return m[1], m[2]
}

// slowBad tells what is no change.
func slowBad(c api.ChangeRecord) bool {
	noDesc := func(desc string) bool {
		_, err, _ := attr.Canonical(desc)
		return err != 0 || lower(desc) == "dn"
	}
	_, err := dn.Parse(c.Name)
	bad := err != nil
	for _, control := range c.Controls {
		bad = bad || control.Critical
	}
	switch c.Kind {
	case 0:
		bad = bad || len(c.Pairs) == 0
		for _, pair := range c.Pairs {
			bad = bad || noDesc(pair.Desc)
		}
	case 1:
	case 2:
		for _, x := range c.Changes {
			bad = bad || x.Kind != 0 && x.Kind != 1 && x.Kind != 2 || noDesc(x.Desc) || x.Kind == 0 && len(x.Values) == 0
		}
	case 3:
		parsed, err := dn.Parse(c.NewRDN)
		_, above := dn.Parse(c.NewSuperior)
		bad = bad || err != nil || len(parsed) != 1 || c.HasNewSuperior && above != nil
	default:
		return true
	}
	return bad
}

// slowDo is one of a modification's changes, on attributes that are its own to write on.
func slowDo(attrs []api.Attr, x api.Change) ([]api.Attr, api.Errno) {
	canon, _, _ := attr.Canonical(x.Desc)
	mine := func(a api.Attr) bool { return a.Canon == canon }
	first := slices.IndexFunc(attrs, mine)
	switch {
	case x.Kind == 0:
		for _, value := range x.Values {
			if holds(canon, slowValues(attrs, canon), value) {
				return nil, 214
			}
			attrs = slowLay(attrs, x.Desc, canon, value)
		}
	case x.Kind == 1 && len(x.Values) == 0:
		if first < 0 {
			return nil, 215
		}
		return slices.DeleteFunc(attrs, mine), 0
	case x.Kind == 1:
		for _, value := range x.Values {
			if !holds(canon, slowValues(attrs, canon), value) {
				return nil, 215
			}
			attrs = slowTake(attrs, canon, value)
		}
	default:
		for i, value := range x.Values {
			if holds(canon, x.Values[:i], value) {
				return nil, 214
			}
		}
		if len(x.Values) == 0 {
			return slices.DeleteFunc(attrs, mine), 0
		}
		if first < 0 {
			return append(attrs, at(x.Desc, canon, slices.Clone(x.Values)...)), 0
		}
		kept := at(attrs[first].Desc, canon, slices.Clone(x.Values)...)
		return slices.Concat(attrs[:first], []api.Attr{kept}, slices.DeleteFunc(slices.Clone(attrs[first+1:]), mine)), 0
	}
	return attrs, 0
}

// slowLay lays a value behind those of the attribute of a Canon.
func slowLay(attrs []api.Attr, desc, canon, value string) []api.Attr {
	for i := range attrs {
		if attrs[i].Canon == canon {
			attrs[i].Values = append(slices.Clone(attrs[i].Values), value)
			return attrs
		}
	}
	return append(attrs, at(desc, canon, value))
}

// slowTake takes away every value that is equal to this one, and the attributes of its Canon that have none then.
func slowTake(attrs []api.Attr, canon, value string) []api.Attr {
	var out []api.Attr
	for _, a := range attrs {
		if a.Canon == canon {
			a.Values = slices.DeleteFunc(slices.Clone(a.Values), func(v string) bool { return equalValues(canon, v, value) })
			if len(a.Values) == 0 {
				continue
			}
		}
		out = append(out, a)
	}
	return out
}

// slowCopy is entries with attribute lists of their own.
func slowCopy(entries []api.Entry) []api.Entry {
	out := slices.Clone(entries)
	for i := range out {
		out[i].Attrs = slices.Clone(out[i].Attrs)
	}
	return out
}

func slowFind(entries []api.Entry, key []string) int {
	return slices.IndexFunc(entries, func(e api.Entry) bool { return slices.Equal(e.Key, key) })
}

func isFront(front, key []string) bool {
	return len(front) <= len(key) && slices.Equal(front, key[:len(front)])
}

// slowApply is P21.1: the entries behind the change, in canonical order.
func slowApply(before []api.Entry, c api.ChangeRecord) ([]api.Entry, api.Errno) {
	if slowBad(c) {
		return nil, 219
	}
	entries := slowCopy(before)
	key, _ := dn.KeyOf(c.Name)
	place := slowFind(entries, key)
	if place < 0 && c.Kind != 0 {
		return nil, 211
	}
	var err api.Errno
	switch c.Kind {
	case 0:
		if place >= 0 {
			return nil, 210
		}
		if len(key) == 0 || slowFind(entries, key[:len(key)-1]) < 0 {
			return nil, 212
		}
		made, _ := entry.Make(api.Record{Line: c.Line, Name: c.Name, Pairs: c.Pairs})
		made.Attrs, err = slowRight(made.Attrs)
		entries = append(entries, made)
	case 1:
		if place == 0 {
			return nil, 218
		}
		if slices.ContainsFunc(entries, func(e api.Entry) bool { return len(e.Key) > len(key) && isFront(key, e.Key) }) {
			return nil, 213
		}
		entries = slices.Delete(entries, place, place+1)
	case 2:
		e := &entries[place]
		for _, x := range c.Changes {
			if e.Attrs, err = slowDo(e.Attrs, x); err != 0 {
				return nil, err
			}
		}
		if !slowHasOwn(e.Attrs, e.Name) || slowEmpty(e.Attrs) {
			return nil, 216
		}
		e.Attrs, err = slowRight(e.Attrs)
	case 3:
		err = slowRename(entries, place, c)
	}
	if err != 0 {
		return nil, err
	}
	slices.SortFunc(entries, func(a, b api.Entry) int { return slices.Compare(a.Key, b.Key) })
	return entries, 0
}

// slowRename gives the entry at this place its new name, and those beneath it theirs.
func slowRename(entries []api.Entry, place int, c api.ChangeRecord) api.Errno {
	was := entries[place]
	if place == 0 {
		return 218
	}
	superior := was.Key[:len(was.Key)-1]
	_, rest := slowCut(was.Name)
	if c.HasNewSuperior {
		superior, _ = dn.KeyOf(c.NewSuperior)
	}
	above := slowFind(entries, superior)
	if above < 0 {
		return 212
	}
	if isFront(was.Key, superior) {
		return 217
	}
	if c.HasNewSuperior {
		rest = entries[above].Name
	}
	parsed, _ := dn.Parse(c.NewRDN)
	part, _ := dn.Part(parsed[0])
	key := append(slices.Clone(superior), part)
	if slowFind(entries, key) >= 0 && !slices.Equal(key, was.Key) {
		return 210
	}
	// From the names of all that stand ahead in canonical order those of their children follow.
	names := map[string]string{}
	fit := true
	for i, e := range entries {
		if !isFront(was.Key, e.Key) {
			continue
		}
		name := c.NewRDN
		if i != place {
			own, _ := slowCut(e.Name)
			name = own + "," + names[strings.Join(e.Key[:len(e.Key)-1], "\x00")]
		} else if rest != "" {
			name += "," + rest
		}
		names[strings.Join(e.Key, "\x00")] = name
		entries[i].Name, entries[i].Key = name, slices.Concat(key, e.Key[len(was.Key):])
		got, err := dn.KeyOf(name)
		fit = fit && err == nil && slices.Equal(got, entries[i].Key)
	}
	if !fit {
		return 219
	}
	return slowOwnPairs(&entries[place], was.Name, c)
}

// slowOwnPairs is what a renaming does with the attributes.
func slowOwnPairs(e *api.Entry, was string, c api.ChangeRecord) api.Errno {
	fresh := slowOwn(c.NewRDN)
	for _, p := range slowOwn(was) {
		canon, _, _ := attr.Canonical(p.Type)
		stays := slices.ContainsFunc(fresh, func(f api.AVA) bool {
			other, _, _ := attr.Canonical(f.Type)
			return other == canon && equalValues(canon, f.Value, p.Value)
		})
		if c.DeleteOld && !stays {
			e.Attrs = slowTake(e.Attrs, canon, p.Value)
		}
	}
	for _, p := range fresh {
		canon, _, _ := attr.Canonical(p.Type)
		if !holds(canon, slowValues(e.Attrs, canon), p.Value) {
			e.Attrs = slowLay(e.Attrs, p.Type, canon, p.Value)
		}
	}
	if slowEmpty(e.Attrs) {
		return 216
	}
	var err api.Errno
	e.Attrs, err = slowRight(e.Attrs)
	return err
}

// slowAll is P21.2.
func slowAll(entries []api.Entry, cs []api.ChangeRecord) ([]api.Entry, api.Errno, int) {
	for i, c := range cs {
		made, err := slowApply(entries, c)
		if err != 0 {
			return nil, err, i
		}
		entries = made
	}
	return entries, 0, 0
}

// slowCovered tells whether each value of a's is equal to one of b's, under the same Canon.
func slowCovered(a, b []api.Attr) bool {
	for _, x := range a {
		for _, value := range x.Values {
			if !holds(x.Canon, slowValues(b, x.Canon), value) {
				return false
			}
		}
	}
	return true
}

func slowMeanSame(x, y api.Entry) bool {
	return slices.Equal(x.Key, y.Key) && slowCovered(x.Attrs, y.Attrs) && slowCovered(y.Attrs, x.Attrs)
}

// slowSame is P21.3.
func slowSame(a, b []api.Entry) bool { return slices.EqualFunc(a, b, slowMeanSame) }

func slowSound(e api.Entry) bool {
	made, err := entry.Make(entry.Back(e))
	plain := false
	for _, a := range e.Attrs {
		if lower(a.Desc) == "dn" {
			return false
		}
		plain = plain || !reserved(a)
	}
	return err == 0 && plain && entryTold(made) == entryTold(e)
}

// slowDiff is P21.4.
func slowDiff(a, b []api.Entry) ([]api.ChangeRecord, api.Errno) {
	if !slices.Equal(a[0].Key, b[0].Key) {
		return nil, 218
	}
	if slices.ContainsFunc(slices.Concat(a, b), func(e api.Entry) bool { return !slowSound(e) }) {
		return nil, 219
	}
	var out []api.ChangeRecord
	for _, x := range slices.Backward(a) {
		if slowFind(b, x.Key) < 0 {
			out = append(out, deleted(x.Name))
		}
	}
	for _, y := range b {
		place := slowFind(a, y.Key)
		if place < 0 {
			out = append(out, api.ChangeRecord{Name: y.Name, Pairs: entry.Back(y).Pairs})
			continue
		}
		x := a[place]
		if !slowHasOwn(y.Attrs, x.Name) {
			return nil, 216
		}
		if slowMeanSame(x, y) {
			continue
		}
		var changes []api.Change
		for _, attribute := range y.Attrs {
			mine := []api.Attr{attribute}
			theirs := slices.DeleteFunc(slices.Clone(x.Attrs), func(a api.Attr) bool { return a.Canon != attribute.Canon })
			if !slowCovered(mine, theirs) || !slowCovered(theirs, mine) {
				changes = append(changes, to(2, attribute.Desc, attribute.Values...))
			}
		}
		for _, attribute := range x.Attrs {
			if !slices.ContainsFunc(y.Attrs, func(a api.Attr) bool { return a.Canon == attribute.Canon }) {
				changes = append(changes, to(1, attribute.Desc))
			}
		}
		out = append(out, changed(x.Name, changes...))
	}
	return out, 0
}

// slowText is P21.5.
func slowText(snapshot, changes string) (string, api.Fault) {
	records, err, line := ldif.Load(snapshot)
	if err != 0 {
		return "", api.Fault{Err: err, Line: line}
	}
	entries, err, line := entry.Gather(records)
	if err != 0 {
		return "", api.Fault{Err: err, Line: line}
	}
	if _, err, place := dit.Build(entries); err != 0 {
		return "", api.Fault{Err: err, Line: records[place].Line}
	}
	cs, err, line := change.Load(changes)
	if err != 0 {
		return "", api.Fault{Err: err, Line: line}
	}
	slices.SortFunc(entries, func(a, b api.Entry) int { return slices.Compare(a.Key, b.Key) })
	made, err, place := slowAll(entries, cs)
	if err != 0 {
		return "", api.Fault{Err: err, Line: cs[place].Line}
	}
	records = nil
	for _, e := range made {
		records = append(records, entry.Back(e))
	}
	text, err, _ := ldif.Render(records)
	if err != 0 {
		panic(fmt.Sprintf("what is made can't be written: %d, %s", err, told(records)))
	}
	return text, api.Fault{}
}

// What holds of every call.

// holdMade holds that a tree is the one of these entries, each at the place that is its number.
func holdMade(t testing.TB, of any, tree *dit.Tree, want []api.Entry) {
	t.Helper()
	if (tree == nil) != (want == nil) {
		t.Fatalf("%.2000s: the tree is %s, want %s", told(of), shown(tree), told(want))
	}
	if tree == nil {
		return
	}
	if got := entriesOf(tree); entriesTold(got) != entriesTold(want) {
		t.Fatalf("%.2000s: the entries are\n%swant\n%s", told(of), entriesTold(got), entriesTold(want))
	}
	if same, _, _ := dit.Build(want); wholeTold(tree) != wholeTold(same) {
		t.Fatalf("%.2000s: the tree says\n%swant\n%s", told(of), wholeTold(tree), wholeTold(same))
	}
}

// holdAll holds All, of each front of the changes too, and that the tree stays.
func holdAll(t testing.TB, tree *dit.Tree, cs []api.ChangeRecord) {
	t.Helper()
	before := wholeTold(tree)
	want, wantErr, wantPlace := slowAll(entriesOf(tree), cs)
	got, err, place := All(tree, cs)
	if err != wantErr || place != wantPlace {
		t.Fatalf("All(%s, %.2000s) = %s, %d, %d; want %d, %d", shown(tree), told(cs), shown(got), err, place, wantErr, wantPlace)
	}
	holdMade(t, cs, got, want)
	if len(cs) == 1 {
		got, err := Apply(tree, cs[0])
		if err != wantErr {
			t.Fatalf("Apply(%s, %.2000s) = %s, %d; want %d", shown(tree), told(cs), shown(got), err, wantErr)
		}
		holdMade(t, cs, got, want)
	}
	if after := wholeTold(tree); after != before {
		t.Fatalf("%.2000s: the tree became\n%sit was\n%s", told(cs), after, before)
	}
}

// holdApplied holds what a change makes of entries: shown of the new tree.
func holdApplied(t testing.TB, entries []api.Entry, c api.ChangeRecord, want string) {
	t.Helper()
	tree := grown(t, entries...)
	if got, err := Apply(tree, c); shown(got) != want || err != api.OK {
		t.Errorf("%.2000s: %d,\n%swant\n%s", told(c), err, shown(got), want)
	}
	holdAll(t, tree, []api.ChangeRecord{c})
}

// holdNames holds the names that the entries have behind a change.
func holdNames(t testing.TB, entries []api.Entry, c api.ChangeRecord, want string) {
	t.Helper()
	tree := grown(t, entries...)
	if got, err := Apply(tree, c); namesOf(got) != want || err != api.OK {
		t.Errorf("%.2000s: %d, %s; want %s", told(c), err, namesOf(got), want)
	}
	holdAll(t, tree, []api.ChangeRecord{c})
}

// holdAttrs holds what the entry with this name has behind a change.
func holdAttrs(t testing.TB, entries []api.Entry, c api.ChangeRecord, name, want string) {
	t.Helper()
	tree := grown(t, entries...)
	got, err := Apply(tree, c)
	if err != api.OK {
		t.Fatalf("%.2000s: %d", told(c), err)
	}
	place := slices.IndexFunc(entriesOf(got), func(e api.Entry) bool { return e.Name == name })
	if place < 0 {
		t.Fatalf("%.2000s: no %q in %s", told(c), name, shown(got))
	}
	if has := attrsTold(got.Entry(place).Attrs); has != want {
		t.Errorf("%.2000s: %q has %s, want %s", told(c), name, has, want)
	}
	holdAll(t, tree, []api.ChangeRecord{c})
}

// holdRefused holds that a change is refused.
func holdRefused(t testing.TB, entries []api.Entry, c api.ChangeRecord, want api.Errno) {
	t.Helper()
	tree := grown(t, entries...)
	if got, err := Apply(tree, c); got != nil || err != want {
		t.Errorf("%.2000s: %d, %s; want %d", told(c), err, shown(got), want)
	}
	holdAll(t, tree, []api.ChangeRecord{c})
}

// holdTrees holds Same and Diff of two trees, and what follows.
func holdTrees(t testing.TB, a, b *dit.Tree) {
	t.Helper()
	before := wholeTold(a) + wholeTold(b)
	if got, want := Same(a, b), slowSame(entriesOf(a), entriesOf(b)); got != want {
		t.Fatalf("Same is %v of\n%sand\n%s", got, shown(a), shown(b))
	}
	want, wantErr := slowDiff(entriesOf(a), entriesOf(b))
	got, err := Diff(a, b)
	if told(got) != told(want) || err != wantErr {
		t.Fatalf("Diff of\n%sand\n%sis %s, %d; want %s, %d", shown(a), shown(b), told(got), err, told(want), wantErr)
	}
	if err == api.OK {
		made, err, place := All(a, got)
		if err != api.OK || place != 0 || !Same(made, b) || !slowSame(entriesOf(made), entriesOf(b)) {
			t.Fatalf("All of Diff is %d, %d, %snot\n%s", err, place, shown(made), shown(b))
		}
	}
	if after := wholeTold(a) + wholeTold(b); after != before {
		t.Fatalf("the trees became\n%sthey were\n%s", after, before)
	}
}

// holdText holds Text.
func holdText(t testing.TB, snapshot, changes string) {
	t.Helper()
	want, fault := slowText(snapshot, changes)
	if got, f := Text(snapshot, changes); got != want || f != fault {
		t.Fatalf("Text(%q, %q) = %q, %v; want %q, %v", snapshot, changes, got, f, want, fault)
	}
}
