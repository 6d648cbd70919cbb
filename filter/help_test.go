package filter

import (
	"fmt"
	"math/rand"
	"regexp"
	"slices"
	"strconv"
	"strings"
	"testing"
	"unicode/utf8"

	"roster/api"
	"roster/ber"
)

// Nodes, short.

func list(nodes ...api.FilterNode) api.Filter { return nodes }

func op(depth int, o api.FilterOp) api.FilterNode { return api.FilterNode{Depth: depth, Op: o} }

func with(depth int, o api.FilterOp, desc, value string) api.FilterNode {
	return api.FilterNode{Depth: depth, Op: o, Desc: desc, Value: value}
}

func eq(depth int, desc, value string) api.FilterNode { return with(depth, api.Equality, desc, value) }

func has(depth int, desc string) api.FilterNode { return with(depth, api.Present, desc, "") }

func sub(depth int, desc, initial string, between []string, final string) api.FilterNode {
	return api.FilterNode{Depth: depth, Op: api.Substrings, Desc: desc, Parts: api.Pattern{Initial: initial, Any: between, Final: final}}
}

func ext(depth int, desc, rule, value string, names bool) api.FilterNode {
	return api.FilterNode{Depth: depth, Op: api.Extensible, Desc: desc, Rule: rule, Value: value, DNAttrs: names}
}

// chain is so many nodes of one Op, each alone in the one ahead of it.
func chain(o api.FilterOp, many int) api.Filter {
	var f api.Filter
	for depth := range many {
		f = append(f, op(depth+1, o))
	}
	return f
}

// told is a list as a text: what has another text is another list.
func told(f api.Filter) string {
	var out strings.Builder
	for _, n := range f {
		fmt.Fprintf(&out, "{%d %d %q %q %q %q %q %q %v}", n.Depth, n.Op, n.Desc, n.Value, n.Parts.Initial, n.Parts.Any, n.Parts.Final, n.Rule, n.DNAttrs)
	}
	return out.String()
}

func hold(t *testing.T, what string, got, want api.Filter) {
	t.Helper()
	if told(got) != told(want) {
		t.Errorf("%s = %s, want %s", what, told(got), told(want))
	}
}

// The chapter's words, told a second time: a list as a tree.

type tree struct {
	node api.FilterNode
	kids []tree
}

// slowTree is the tree of a filter: its kids are the nodes that are one deeper than the first, with what they hold.
func slowTree(f api.Filter) tree {
	t := tree{node: f[0]}
	for i := 1; i < len(f); i++ {
		if f[i].Depth != f[0].Depth+1 {
			continue
		}
		end := i + 1
		for end < len(f) && f[end].Depth > f[i].Depth {
			end++
		}
		t.kids = append(t.kids, slowTree(f[i:end]))
	}
	return t
}

// slowList is the list of a tree whose first node has this depth.
func slowList(t tree, depth int) api.Filter {
	t.node.Depth = depth
	out := api.Filter{t.node}
	for _, kid := range t.kids {
		out = append(out, slowList(kid, depth+1)...)
	}
	return out
}

// asks are the letters of the fields that an Op asks for: Desc, Value, Parts, Rule and DNAttrs (N).
var asks = map[api.FilterOp]string{
	api.And: "", api.Or: "", api.Not: "",
	api.Equality: "DV", api.AtLeast: "DV", api.AtMost: "DV", api.Approx: "DV",
	api.Present: "D", api.Substrings: "DP", api.Extensible: "DVRN",
}

func slowSound(n api.FilterNode) bool {
	asked, known := asks[n.Op]
	if !known || !utf8.ValidString(n.Desc) || !utf8.ValidString(n.Rule) {
		return false
	}
	pieces := n.Parts.Initial + n.Parts.Final + strings.Join(n.Parts.Any, "|")
	for letter, there := range map[string]bool{
		"D": n.Desc != "", "V": n.Value != "", "P": pieces != "" || len(n.Parts.Any) > 0, "R": n.Rule != "", "N": n.DNAttrs,
	} {
		if there && !strings.Contains(asked, letter) {
			return false
		}
	}
	switch n.Op {
	case api.Substrings:
		for _, piece := range n.Parts.Any {
			if piece == "" {
				return false
			}
		}
		return pieces != ""
	case api.Extensible:
		return n.Desc+n.Rule != ""
	}
	return true
}

func slowFollows(f api.Filter, i int) bool {
	if i == 0 {
		return f[0].Depth == 1
	}
	if f[i].Depth < 2 || f[i].Depth > f[i-1].Depth+1 {
		return false
	}
	return f[i].Depth <= f[i-1].Depth || asks[f[i-1].Op] == ""
}

// slowSecond tells whether the node is a second kid of a Not.
func slowSecond(f api.Filter, i int) bool {
	sisters := 0
	for j := i - 1; j >= 0; j-- {
		if f[j].Depth == f[i].Depth {
			sisters++
		}
		if f[j].Depth == f[i].Depth-1 {
			return f[j].Op == api.Not && sisters > 0
		}
	}
	return false
}

func slowCheck(f api.Filter) (api.Errno, int) {
	if len(f) == 0 {
		return api.ErrFilter, 0
	}
	for i, n := range f {
		switch {
		case !slowFollows(f, i):
			return api.ErrFilter, i
		case n.Depth > 64:
			return api.ErrDeep, i
		case !slowSound(n), slowSecond(f, i):
			return api.ErrFilter, i
		case n.Op == api.Not && (len(f) == i+1 || f[i+1].Depth-1 != n.Depth):
			return api.ErrFilter, i
		}
	}
	return api.OK, 0
}

// The text, told a second time: expressions for whole items, in which each byte is a character of its own.

const (
	oneType  = `(?:[A-Za-z][A-Za-z0-9-]*|(?:0|[1-9][0-9]*)(?:\.(?:0|[1-9][0-9]*))+)`
	oneDesc  = oneType + `(?:;[A-Za-z0-9-]+)*`
	oneByte  = `(?:[^\x00()*\\]|\\[0-9A-Fa-f]{2})`
	oneValue = oneByte + `*`
)

var (
	signForm  = regexp.MustCompile(`(?s)^(` + oneDesc + `)(=|~=|>=|<=)(` + oneValue + `)$`)
	hereForm  = regexp.MustCompile(`^(` + oneDesc + `)=\*$`)
	starsForm = regexp.MustCompile(`(?s)^(` + oneDesc + `)=(` + oneValue + `)\*((?:` + oneByte + `+\*)*)(` + oneValue + `)$`)
	descForm  = regexp.MustCompile(`(?s)^(` + oneDesc + `)(:[dD][nN])?(?::(` + oneType + `))?:=(` + oneValue + `)$`)
	ruleForm  = regexp.MustCompile(`(?s)^()(:[dD][nN])?:(` + oneType + `):=(` + oneValue + `)$`)
	escape    = regexp.MustCompile(`\\[0-9A-Fa-f]{2}`)
	wholeType = regexp.MustCompile(`^` + oneType + `$`)
	wholeDesc = regexp.MustCompile(`^` + oneDesc + `$`)
)

func asLatin1(s string) string {
	var out []rune
	for i := range len(s) {
		out = append(out, rune(s[i]))
	}
	return string(out)
}

func fromLatin1(s string) string {
	var out []byte
	for _, r := range s {
		out = append(out, byte(r))
	}
	return string(out)
}

func found(form *regexp.Regexp, s string) []string {
	parts := form.FindStringSubmatch(asLatin1(s))
	for i := range parts {
		parts[i] = fromLatin1(parts[i])
	}
	return parts
}

func meant(value string) string {
	return escape.ReplaceAllStringFunc(value, func(code string) string {
		b, _ := strconv.ParseUint(code[1:], 16, 8)
		return string([]byte{byte(b)})
	})
}

func slowItem(s string, depth int) (api.FilterNode, bool) {
	if !utf8.ValidString(escape.ReplaceAllString(s, ".")) {
		return api.FilterNode{}, false
	}
	if p := found(signForm, s); p != nil {
		o := map[string]api.FilterOp{"=": api.Equality, "~=": api.Approx, ">=": api.AtLeast, "<=": api.AtMost}[p[2]]
		return with(depth, o, p[1], meant(p[3])), true
	}
	if p := found(hereForm, s); p != nil {
		return has(depth, p[1]), true
	}
	if p := found(starsForm, s); p != nil {
		var between []string
		for _, piece := range strings.SplitAfter(p[3], "*") {
			if piece != "" {
				between = append(between, meant(strings.TrimSuffix(piece, "*")))
			}
		}
		return sub(depth, p[1], meant(p[2]), between, meant(p[4])), true
	}
	p := found(descForm, s)
	if p == nil {
		p = found(ruleForm, s)
	}
	if p == nil || strings.EqualFold(p[3], "dn") {
		return api.FilterNode{}, false
	}
	return ext(depth, p[1], p[3], meant(p[4]), p[2] != ""), true
}

// groups are the texts in parentheses of which s is made.
func groups(s string) ([]string, bool) {
	var out []string
	open, begin := 0, 0
	for i := range len(s) {
		switch s[i] {
		case '(':
			open++
		case ')':
			open--
		}
		if open < 0 || open == 0 && s[i] != ')' {
			return nil, false
		}
		if open == 0 {
			out = append(out, s[begin:i+1])
			begin = i + 1
		}
	}
	return out, open == 0
}

// slowMeaning is what a text means, however deep it is.
func slowMeaning(s string, depth int) (api.Filter, bool) {
	one, ok := groups(s)
	if !ok || len(one) != 1 {
		return nil, false
	}
	inside := s[1 : len(s)-1]
	sign := -1
	if inside != "" {
		sign = strings.IndexByte("&|!", inside[0])
	}
	if sign < 0 {
		n, ok := slowItem(inside, depth)
		return api.Filter{n}, ok
	}
	kids, ok := groups(inside[1:])
	if !ok || sign == 2 && len(kids) != 1 {
		return nil, false
	}
	out := api.Filter{op(depth, api.FilterOp(sign))}
	for _, kid := range kids {
		f, ok := slowMeaning(kid, depth+1)
		if !ok {
			return nil, false
		}
		out = append(out, f...)
	}
	return out, true
}

// front tells whether a text, of whole sequences, can be gone on with to one that means something: each that can, can by one of these.
func front(s string) bool {
	if s == "" {
		return true
	}
	for _, more := range []string{"", "(a=b)", "a=b", "=b", "0", "00", ".0=b", "0=b", ":=b", "a:=b", ".0:=b", "0:=b"} {
		whole := s + more
		whole += strings.Repeat(")", max(0, strings.Count(whole, "(")-strings.Count(whole, ")")))
		if _, ok := slowMeaning(whole, 1); ok {
			return true
		}
	}
	return false
}

// fronts remembers what front answered.
type fronts map[string]bool

func (known fronts) ask(s string) bool {
	answer, ok := known[s]
	if !ok {
		answer = front(s)
		known[s] = answer
	}
	return answer
}

// slowParse: the fault is where the longest front ends, or at the first "(" in it that is too deep.
func (known fronts) slowParse(s string) (api.Filter, api.Errno, int) {
	f, ok := slowMeaning(s, 1)
	end := len(s)
	for !ok && !known.ask(s[:end]) {
		end--
	}
	open := 0
	for i := range end {
		switch s[i] {
		case '(':
			open++
		case ')':
			open--
		}
		if open > 64 {
			return nil, api.ErrDeep, i
		}
	}
	if !ok {
		return nil, api.ErrFilter, end
	}
	return f, api.OK, 0
}

func (known fronts) holdParse(t *testing.T, s string) {
	t.Helper()
	f, err, at := Parse(s)
	want, wantErr, wantAt := known.slowParse(s)
	if told(f) != told(want) || err != wantErr || at != wantAt {
		t.Errorf("Parse(%q) = %s, %d, %d, want %s, %d, %d", s, told(f), err, at, told(want), wantErr, wantAt)
	}
}

func slowHasText(f api.Filter) bool {
	for _, n := range f {
		isItem := asks[n.Op] != ""
		if isItem && !wholeDesc.MatchString(n.Desc) && !(n.Op == api.Extensible && n.Desc == "") {
			return false
		}
		if n.Rule != "" && (!wholeType.MatchString(n.Rule) || strings.ToLower(n.Rule) == "dn") {
			return false
		}
	}
	return true
}

func slowEscape(value string) string {
	var out strings.Builder
	for _, b := range []byte(value) {
		if b < 0x20 || b > 0x7E || strings.IndexByte(`()*\`, b) >= 0 {
			fmt.Fprintf(&out, `\%02x`, b)
		} else {
			out.WriteByte(b)
		}
	}
	return out.String()
}

func slowPrint(t tree) string {
	n := t.node
	inside := ""
	for _, kid := range t.kids {
		inside += slowPrint(kid)
	}
	switch n.Op {
	case api.And:
		inside = "&" + inside
	case api.Or:
		inside = "|" + inside
	case api.Not:
		inside = "!" + inside
	case api.Equality:
		inside = n.Desc + "=" + slowEscape(n.Value)
	case api.AtLeast:
		inside = n.Desc + ">=" + slowEscape(n.Value)
	case api.AtMost:
		inside = n.Desc + "<=" + slowEscape(n.Value)
	case api.Approx:
		inside = n.Desc + "~=" + slowEscape(n.Value)
	case api.Present:
		inside = n.Desc + "=*"
	case api.Substrings:
		pieces := []string{slowEscape(n.Parts.Initial)}
		for _, piece := range n.Parts.Any {
			pieces = append(pieces, slowEscape(piece))
		}
		inside = n.Desc + "=" + strings.Join(append(pieces, slowEscape(n.Parts.Final)), "*")
	case api.Extensible:
		if n.DNAttrs {
			inside = ":dn"
		}
		if n.Rule != "" {
			inside += ":" + n.Rule
		}
		inside = n.Desc + inside + ":=" + slowEscape(n.Value)
	}
	return "(" + inside + ")"
}

// The element, told a second time.

func element(class api.Class, made bool, tag int, body ...string) string {
	b, err := ber.Join(api.Elem{Class: class, Made: made, Tag: tag, Body: strings.Join(body, "")})
	if err != api.OK {
		panic(err)
	}
	return b
}

func octetsOf(body string) string { return element(api.Universal, false, 4, body) }

func field(tag int, body string) string { return element(api.Context, false, tag, body) }

func unlessNone(tag int, body string) string {
	if body == "" {
		return ""
	}
	return field(tag, body)
}

// slowElement answers with the element how many elements are nested in it, itself counted.
func slowElement(t tree) (string, int) {
	n := t.node
	made := func(body ...string) string { return element(api.Context, true, int(n.Op), body...) }
	switch n.Op {
	case api.Present:
		return element(api.Context, false, 7, n.Desc), 1
	case api.Substrings:
		var pieces strings.Builder
		for _, piece := range n.Parts.Any {
			pieces.WriteString(field(1, piece))
		}
		return made(octetsOf(n.Desc), element(api.Universal, true, 16, unlessNone(0, n.Parts.Initial), pieces.String(), unlessNone(2, n.Parts.Final))), 3
	case api.Extensible:
		names := ""
		if n.DNAttrs {
			names = field(4, "\xff")
		}
		return made(unlessNone(1, n.Rule), unlessNone(2, n.Desc), field(3, n.Value), names), 2
	case api.And, api.Or, api.Not:
		var kids []string
		deepest := 0
		for _, kid := range t.kids {
			b, depth := slowElement(kid)
			kids, deepest = append(kids, b), max(deepest, depth)
		}
		return made(kids...), deepest + 1
	}
	return made(octetsOf(n.Desc), octetsOf(n.Value)), 2
}

func slowEncode(f api.Filter) (string, api.Errno) {
	if err, _ := slowCheck(f); err != api.OK {
		return "", err
	}
	b, depth := slowElement(slowTree(f))
	if depth > 64 {
		return "", api.ErrDeep
	}
	return b, api.OK
}

// within are the elements right beneath the first, each with what it holds.
func within(elements []api.Node) [][]api.Node {
	var out [][]api.Node
	for _, e := range elements[1:] {
		if e.Depth == elements[0].Depth+1 {
			out = append(out, nil)
		}
		out[len(out)-1] = append(out[len(out)-1], e)
	}
	return out
}

// guess is what these elements would mean, if they meant something; all tags 4 in an Extensible are made true in them.
func guess(elements []api.Node) tree {
	t := tree{node: op(1, api.FilterOp(elements[0].Tag))}
	n := &t.node
	inside := within(elements)
	switch n.Op {
	case api.And, api.Or, api.Not:
		for _, kid := range inside {
			t.kids = append(t.kids, guess(kid))
		}
	case api.Present:
		n.Desc = elements[0].Body
	case api.Extensible:
		for _, one := range inside {
			body := one[0].Body
			switch one[0].Tag {
			case 1:
				n.Rule = body
			case 2:
				n.Desc = body
			case 3:
				n.Value = body
			case 4:
				n.DNAttrs = true
			}
		}
	default:
		for i, one := range inside {
			if i == 0 {
				n.Desc = one[0].Body
			} else if n.Op != api.Substrings {
				n.Value = one[0].Body
			} else {
				guessPieces(&n.Parts, within(one))
			}
		}
	}
	return t
}

func guessPieces(p *api.Pattern, pieces [][]api.Node) {
	for _, piece := range pieces {
		switch piece[0].Tag {
		case 0:
			p.Initial = piece[0].Body
		case 1:
			p.Any = append(p.Any, piece[0].Body)
		case 2:
			p.Final = piece[0].Body
		}
	}
}

// slowDecode guesses, and writes the guess: what it wrote must be what was read, but for the tags 4, of which any byte is taken.
func slowDecode(b string) (api.Filter, api.Errno) {
	elements, err, _ := ber.Tree(b)
	if err != api.OK {
		return nil, err
	}
	f := slowList(guess(elements), 1)
	if err, _ := slowCheck(f); err != api.OK {
		return nil, api.ErrFilter
	}
	written, _ := slowElement(slowTree(f))
	again, _, _ := ber.Tree(written)
	if len(again) != len(elements) {
		return nil, api.ErrFilter
	}
	var names []bool // of the Extensibles with a tag 4, in order
	for i, e := range elements {
		if again[i].Class == api.Context && again[i].Tag == 4 && !again[i].Made && len(e.Body) == 1 && inExtensible(again, i) {
			names = append(names, e.Body != "\x00")
			e.Body = "\xff"
		}
		if e != again[i] {
			return nil, api.ErrFilter
		}
	}
	for i := range f {
		if f[i].DNAttrs {
			f[i].DNAttrs, names = names[0], names[1:]
		}
	}
	return f, api.OK
}

func inExtensible(elements []api.Node, i int) bool {
	depth := elements[i].Depth - 1
	for i >= 0 && elements[i].Depth > depth {
		i--
	}
	return i >= 0 && elements[i].Class == api.Context && elements[i].Tag == 9
}

func holdDecode(t *testing.T, b string) {
	t.Helper()
	f, err := Decode(b)
	want, wantErr := slowDecode(b)
	if told(f) != told(want) || err != wantErr {
		t.Errorf("Decode(%x) = %s, %d, want %s, %d", b, told(f), err, told(want), wantErr)
	}
}

// Negation pushed down, told a second time.

func slowPush(t tree, turned bool) tree {
	switch t.node.Op {
	case api.Not:
		return slowPush(t.kids[0], !turned)
	case api.And, api.Or:
		out := tree{node: t.node}
		if turned {
			out.node.Op = 1 - t.node.Op
		}
		for _, kid := range t.kids {
			out.kids = append(out.kids, slowPush(kid, turned))
		}
		return out
	}
	if turned {
		return tree{node: op(0, api.Not), kids: []tree{t}}
	}
	return t
}

// Random things, with fixed seeds.

func pick[T any](r *rand.Rand, from ...T) T { return from[r.Intn(len(from))] }

func someDesc(r *rand.Rand) string {
	return pick(r, "cn", "CN;Lang-EN", "2.5.4.3", "a", "x-1;b;a", "0.0", "dn", "DN;dn", "c-l;-;9")
}

func someRule(r *rand.Rand) string {
	return pick(r, "caseExactMatch", "2.5.13.5", "r", "dnx", "d", "DN-", "0.1")
}

func someValue(r *rand.Rand) string {
	return pick(r, "", "a", "Ada", "*", "(", ")", "\\", "\x00", "\xc3\xa9", "\xff", "a b", "~", "\x7f", "\x1f", " ", ":=x", "&|!", "\xc3", "x*y", "\\2a", "\xe2\x82\xac!", strings.Repeat("long ", r.Intn(60)))
}

func somePattern(r *rand.Rand) api.Pattern {
	var p api.Pattern
	for noPieceAtAll := true; noPieceAtAll; noPieceAtAll = p.Initial == "" && p.Final == "" && len(p.Any) == 0 {
		p = api.Pattern{Initial: someValue(r), Final: someValue(r)}
		for range r.Intn(4) {
			if piece := someValue(r); piece != "" {
				p.Any = append(p.Any, piece)
			}
		}
	}
	return p
}

func someItem(r *rand.Rand) api.FilterNode {
	n := api.FilterNode{Op: api.Equality + api.FilterOp(r.Intn(7)), Desc: someDesc(r)}
	switch n.Op {
	case api.Present:
	case api.Substrings:
		n.Parts = somePattern(r)
	case api.Extensible:
		n.Rule, n.DNAttrs = pick(r, "", someRule(r)), r.Intn(2) == 0
		if n.Rule != "" {
			n.Desc = pick(r, "", n.Desc)
		}
		fallthrough
	default:
		n.Value = someValue(r)
	}
	return n
}

func someTree(r *rand.Rand, deep int) tree {
	if deep <= 1 || r.Intn(3) == 0 {
		return tree{node: someItem(r)}
	}
	t := tree{node: op(0, api.FilterOp(r.Intn(3)))}
	many := r.Intn(4)
	if t.node.Op == api.Not {
		many = 1
	}
	for range many {
		t.kids = append(t.kids, someTree(r, deep-1))
	}
	return t
}

// someFilter is a filter that has a text.
func someFilter(r *rand.Rand) api.Filter { return slowList(someTree(r, 1+r.Intn(5)), 1) }

// someBytes are any bytes.
func someBytes(r *rand.Rand, longest int) string {
	b := make([]byte, r.Intn(longest+1))
	r.Read(b)
	return string(b)
}

// spoiltNode changes one field of a node to something that may be wrong.
func spoiltNode(r *rand.Rand, n api.FilterNode) api.FilterNode {
	odd := pick(r, "", "no desc", "cn;", "1", "\xff", "dn", "Dn", "cn;x", "\xc3\xa9", "x", "-", "2.5", "01.2")
	switch r.Intn(8) {
	case 0:
		n.Depth += r.Intn(5) - 2
	case 1:
		n.Op = api.FilterOp(r.Intn(14) - 2)
	case 2:
		n.Desc = odd
	case 3:
		n.Value = odd
	case 4:
		n.Parts = api.Pattern{Initial: pick(r, "", odd), Any: [][]string{nil, {}, {odd}, {"a", odd}}[r.Intn(4)], Final: pick(r, "", odd)}
	case 5:
		n.Rule = odd
	case 6:
		n.DNAttrs = !n.DNAttrs
	case 7:
		n.Depth = pick(r, -1<<63, -1, 0, 1, 2, 63, 64, 65, 1<<63-1)
	}
	return n
}

// someList is a filter in which something was changed, or none at all.
func someList(r *rand.Rand) api.Filter {
	f := someFilter(r)
	for range r.Intn(3) {
		i := r.Intn(len(f))
		switch r.Intn(6) {
		case 0:
			f = slices.Delete(f, i, i+1)
		case 1:
			f = slices.Insert(f, i, f[i])
		default:
			f[i] = spoiltNode(r, f[i])
		}
		if len(f) == 0 {
			return f
		}
	}
	return f
}
