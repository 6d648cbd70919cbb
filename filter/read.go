package filter

import (
	"strings"

	"roster/api"
	"roster/attr"
	"roster/text"
)

// reader is a filter's text, how far it is read, and the nodes that were read.
type reader struct {
	source string
	place  int
	nodes  api.Filter
}

// whole reads the outermost filter, behind which the text must end.
func (r *reader) whole() {
	r.filter(1)
	if r.place < len(r.source) {
		refuse(r.place)
	}
}

func (r *reader) filter(depth int) {
	if r.here() != '(' {
		refuse(r.place)
	}
	if depth > api.MaxFilter {
		panic(fault{api.ErrDeep, r.place})
	}
	r.place++
	switch r.here() {
	case '&':
		r.group(api.FilterNode{Depth: depth, Op: api.And})
	case '|':
		r.group(api.FilterNode{Depth: depth, Op: api.Or})
	case '!':
		r.open(api.FilterNode{Depth: depth, Op: api.Not})
		r.filter(depth + 1)
	default:
		r.nodes = append(r.nodes, r.item(depth))
	}
	r.want(')')
}

// open takes the sign of a node that holds others.
func (r *reader) open(n api.FilterNode) {
	r.place++
	r.nodes = append(r.nodes, n)
}

func (r *reader) group(n api.FilterNode) {
	r.open(n)
	for r.here() == '(' {
		r.filter(n.Depth + 1)
	}
}

// item reads an item up to the byte that should be its ")".
func (r *reader) item(depth int) api.FilterNode {
	n := api.FilterNode{Depth: depth, Desc: r.desc()}
	n.Op = r.sign(n.Desc)
	switch n.Op {
	case api.AtLeast, api.AtMost, api.Approx:
		r.place++ // they read what Equality reads, behind one sign more
		fallthrough
	case api.Equality:
		r.want('=')
		n.Value = r.value()
	case api.Extensible:
		r.rules(&n)
	}
	if n.Op == api.Equality && r.here() == '*' {
		r.stars(&n)
	}
	return n
}

// desc reads a description, or none.
func (r *reader) desc() string {
	row := r.row(descByte)
	if row == "" {
		return ""
	}
	if _, err, at := attr.Parse(row); err != api.OK {
		refuse(r.place - len(row) + at)
	}
	return row
}

// sign tells, by the byte that stands here, which kind of item has this description; of Present and Substrings it tells Equality.
func (r *reader) sign(desc string) api.FilterOp {
	b := r.here()
	if desc == "" && b != ':' {
		refuse(r.place)
	}
	switch b {
	case ':':
		return api.Extensible
	case '=':
		return api.Equality
	case '>':
		return api.AtLeast
	case '<':
		return api.AtMost
	case '~':
		return api.Approx
	}
	panic(fault{api.ErrFilter, r.place})
}

// rules reads an Extensible from its first ":" on.
func (r *reader) rules(n *api.FilterNode) {
	r.want(':')
	row := r.row(ruleByte)
	if isDN(row) {
		n.DNAttrs = true
		r.want(':')
		row = r.row(ruleByte)
	}
	if row != "" {
		n.Rule = r.rule(row)
		r.want(':')
	}
	if n.Desc == "" && n.Rule == "" {
		refuse(r.place)
	}
	r.want('=')
	n.Value = r.value()
}

// rule is the row that has just been taken, if it may be a rule's name.
func (r *reader) rule(row string) string {
	if _, err, at := attr.ParseType(row); err != api.OK {
		refuse(r.place - len(row) + at)
	}
	if isDN(row) {
		refuse(r.place)
	}
	return row
}

// stars reads on from the first star behind "=" and makes the item Present or Substrings.
func (r *reader) stars(n *api.FilterNode) {
	pieces := []string{n.Value}
	n.Value = ""
	for r.here() == '*' {
		if len(pieces) > 1 && pieces[len(pieces)-1] == "" {
			refuse(r.place) // right behind another star
		}
		r.place++
		pieces = append(pieces, r.value())
	}
	last := len(pieces) - 1
	n.Op = api.Substrings
	n.Parts = api.Pattern{Initial: pieces[0], Any: pieces[1:last], Final: pieces[last]}
	if noPiece(n.Parts) {
		n.Op, n.Parts = api.Present, api.Pattern{}
	}
}

// value reads what stands as it is, or escaped, up to the first byte that does neither. Whether that one may stand there, the caller asks.
func (r *reader) value() string {
	var value strings.Builder
	for {
		raw := r.row(stands)
		if err, at := text.Check(raw); err != api.OK {
			refuse(r.place - len(raw) + at)
		}
		value.WriteString(raw)
		if r.here() != '\\' {
			return value.String()
		}
		r.place++
		value.WriteString(r.code())
	}
}

// code reads the two digits of an escape.
func (r *reader) code() string {
	digits := r.source[r.place:min(r.place+2, len(r.source))]
	b, err, at := text.Unhex(digits)
	if err != api.OK {
		refuse(r.place + at)
	}
	r.place += len(digits) // none at the text's end: the ")" is missed there
	return b
}

// here is the byte that stands here; 0 at the text's end, as a byte 0 may stand nowhere.
func (r *reader) here() byte {
	if r.place == len(r.source) {
		return 0
	}
	return r.source[r.place]
}

// want takes the byte, which must stand here.
func (r *reader) want(b byte) {
	if r.here() != b {
		refuse(r.place)
	}
	r.place++
}

// row takes the longest row of such bytes that stands here.
func (r *reader) row(such func(b byte) bool) string {
	begin := r.place
	for r.place < len(r.source) && such(r.source[r.place]) {
		r.place++
	}
	return r.source[begin:r.place]
}

func isDN(row string) bool { return text.Fold(row) == "dn" }

func ruleByte(b byte) bool {
	return 'a' <= b && b <= 'z' || 'A' <= b && b <= 'Z' || '0' <= b && b <= '9' || b == '.' || b == '-'
}

func descByte(b byte) bool { return ruleByte(b) || b == ';' }

// stands tells whether a byte stands as it is in a value.
func stands(b byte) bool {
	switch b {
	case 0, '(', ')', '*', '\\':
		return false
	}
	return true
}
