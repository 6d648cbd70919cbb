package msg

import (
	"encoding/hex"
	"fmt"
	"math/rand"
	"reflect"
	"regexp"
	"slices"
	"strings"
	"testing"

	"roster/api"
	"roster/ber"
	"roster/filter"
)

// fromHex is the bytes of hexadecimal digits with blanks between.
func fromHex(s string) string {
	b, err := hex.DecodeString(strings.Join(strings.Fields(s), ""))
	if err != nil {
		panic(err)
	}
	return string(b)
}

// drawn is the bytes of a picture (see below): first bytes, with elements in braces or a content's digits in angles behind each.
func drawn(s string) string {
	elements, rest := drawnUpTo(strings.Join(strings.Fields(s), ""))
	if rest != "" {
		panic(s)
	}
	return elements
}

// drawnUpTo goes up to a brace that closes what is around.
func drawnUpTo(s string) (elements, rest string) {
	for s != "" && s[0] != '}' {
		first, inside := fromHex(s[:2])[0], ""
		if s[2] == '{' {
			inside, s = drawnUpTo(s[3:])
			s = s[1:]
		} else {
			at := strings.Index(s, ">")
			inside, s = fromHex(s[3:at]), s[at+1:]
		}
		elements += el(first, inside)
	}
	return elements, s
}

// told is a value as a text: what has another text is another value, but that nil and empty lists are the same.
func told(v any) string {
	var out strings.Builder
	tell(&out, reflect.ValueOf(v))
	return out.String()
}

func tell(out *strings.Builder, v reflect.Value) {
	switch v.Kind() {
	case reflect.Struct:
		out.WriteString("{")
		for i := range v.NumField() {
			if !zero(v.Field(i)) {
				out.WriteString(v.Type().Field(i).Name + ":")
				tell(out, v.Field(i))
				out.WriteString(" ")
			}
		}
		out.WriteString("}")
	case reflect.Slice:
		out.WriteString("[")
		for i := range v.Len() {
			tell(out, v.Index(i))
			out.WriteString(" ")
		}
		out.WriteString("]")
	case reflect.String:
		fmt.Fprintf(out, "%q", v.String())
	default:
		fmt.Fprint(out, v.Interface())
	}
}

// zero tells whether a value is the zero one, an empty list among them.
func zero(v reflect.Value) bool {
	switch v.Kind() {
	case reflect.Slice:
		return v.Len() == 0
	case reflect.Struct:
		for i := range v.NumField() {
			if !zero(v.Field(i)) {
				return false
			}
		}
		return true
	}
	return v.IsZero()
}

// The grammar, told a second time: expressions for the picture of a message. In a picture an element is its first byte in
// hexadecimal digits, and its content: elements in braces, or such digits in angles; a search's filter is F, and X what is none.

func made(first string, inside ...string) string {
	return first + `\{` + strings.Join(inside, "") + `\}`
}

func leaf(first, inside string) string { return first + "<" + inside + ">" }

func maybe(form string) string { return "(?:" + form + ")?" }

func many(form string) string { return "(?:" + form + ")*" }

// A dot in these stands for a digit.
var (
	anyBytes = digits(`(?:..)*`)
	utfBytes = digits(`(?:[0-7].|c[2-9a-f][89ab].|d.[89ab].|e0[ab].[89ab].|e[1-9abcef][89ab].[89ab].|ed[89].[89ab].|f0[9ab].[89ab].[89ab].|f[1-3][89ab].[89ab].[89ab].|f48.[89ab].[89ab].)*`)
	oneTo127 = digits(`(?:0[1-9a-f]|[1-7].)`)
	upTo127  = digits(`[0-7].`)
	above127 = digits(`(?:00[89a-f].|0[1-9a-f]..|[1-7]...)(?:..){0,2}`) // up to 7fffffff
	oneToM   = `(?:` + oneTo127 + `|` + above127 + `)`
	zeroToM  = `(?:` + upTo127 + `|` + above127 + `)`
	oneByte  = digits(`..`)
)

func digits(form string) string { return strings.ReplaceAll(form, ".", "[0-9a-f]") }

var (
	utf8Form   = leaf("04", utfBytes)
	bytesForm  = leaf("04", anyBytes)
	boolForm   = leaf("01", oneByte)
	limitForm  = leaf("02", zeroToM)
	valuesForm = utf8Form + made("31", many(bytesForm))
	freshForm  = utf8Form + made("31", bytesForm, many(bytesForm))
	resultForm = leaf("0a", upTo127) + utf8Form + utf8Form

	controlsForm = maybe(made("a0", many(made("30", utf8Form, maybe(boolForm), maybe(bytesForm)))))

	operationForms = []string{
		made("60", leaf("02", oneTo127), utf8Form, "(?:"+leaf("80", anyBytes)+"|"+made("a3", utf8Form, maybe(bytesForm))+")"),
		leaf("42", ""),
		made("63", utf8Form, leaf("0a", "0[0-2]"), leaf("0a", "0[0-3]"), limitForm, limitForm, boolForm, "F", made("30", many(utf8Form))),
		made("66", utf8Form, made("30", many(made("30", leaf("0a", "0[0-2]"), made("30", valuesForm))))),
		made("68", utf8Form, made("30", many(made("30", freshForm)))),
		leaf("4a", utfBytes),
		made("6c", utf8Form, utf8Form, boolForm, maybe(leaf("80", utfBytes))),
		made("6e", utf8Form, made("30", utf8Form, bytesForm)),
		leaf("50", zeroToM),
		made("77", leaf("80", utfBytes), maybe(leaf("81", anyBytes))),
	}
	answerForms = []string{
		made("61", resultForm), made("65", resultForm), made("67", resultForm), made("69", resultForm), made("6b", resultForm), made("6d", resultForm), made("6f", resultForm),
		made("64", utf8Form, made("30", many(made("30", valuesForm)))),
	}
	namedForm = made("78", resultForm, maybe(leaf("8a", utfBytes)))

	requestForm = regexp.MustCompile("^" + made("30", leaf("02", oneToM), "(?:"+strings.Join(operationForms, "|")+")", controlsForm) + "$")
	replyForm   = regexp.MustCompile("^" + made("30", "(?:"+leaf("02", oneToM)+"(?:"+strings.Join(answerForms, "|")+")|"+leaf("02", zeroToM)+namedForm+")", controlsForm) + "$")
)

func firstOf(n api.Node) byte {
	first := byte(n.Class)<<6 | byte(n.Tag)
	if n.Made {
		first |= 0x20
	}
	return first
}

// end is the number of the node behind the one of this number and all that it holds.
func end(nodes []api.Node, i int) int {
	j := i + 1
	for j < len(nodes) && nodes[j].Depth > nodes[i].Depth {
		j++
	}
	return j
}

// moved are nodes at other depths.
func moved(nodes []api.Node, by int) []api.Node {
	out := slices.Clone(nodes)
	for i := range out {
		out[i].Depth += by
	}
	return out
}

// filterOf is what the nodes from this number on mean as a filter, and where they end; they lie at the depth 3.
func filterOf(nodes []api.Node, i int) (api.Filter, bool, int) {
	after := end(nodes, i)
	b, err, _ := ber.Write(moved(nodes[i:after], -2))
	if err != api.OK {
		panic(err)
	}
	f, err := filter.Decode(b)
	return f, err == api.OK, after
}

// holderOf is the first byte of the element that holds the node of this number.
func holderOf(nodes []api.Node, i int) byte {
	for j := i; j >= 0; j-- {
		if nodes[j].Depth < nodes[i].Depth {
			return firstOf(nodes[j])
		}
	}
	return 0
}

func isFilter(nodes []api.Node, i int) bool {
	return nodes[i].Depth == 3 && nodes[i].Class == api.Context && holderOf(nodes, i) == 0x63
}

func picture(nodes []api.Node) string {
	var out strings.Builder
	closes := func(depth, next int) {
		for ; depth >= next; depth-- {
			out.WriteString("}")
		}
	}
	open := 0 // made elements
	for i := 0; i < len(nodes); i++ {
		n := nodes[i]
		closes(open, n.Depth)
		open = n.Depth - 1
		if isFilter(nodes, i) {
			_, ok, after := filterOf(nodes, i)
			out.WriteString(map[bool]string{true: "F", false: "X"}[ok])
			i = after - 1
			continue
		}
		fmt.Fprintf(&out, "%02x", firstOf(n))
		if n.Made {
			out.WriteString("{")
			open++
		} else {
			fmt.Fprintf(&out, "<%x>", n.Body)
		}
	}
	closes(open, 1)
	return out.String()
}

func fits(form *regexp.Regexp, s string) bool {
	nodes, err, _ := ber.Tree(s)
	return err == api.OK && form.MatchString(picture(nodes))
}

// shortest is the shortest text that means what a text of the grammar means.
func shortest(s string) string {
	nodes, _, _ := ber.Tree(s)
	var out []api.Node
	for i := 0; i < len(nodes); i++ {
		n := nodes[i]
		switch {
		case isFilter(nodes, i):
			f, _, after := filterOf(nodes, i)
			b, _ := filter.Encode(f)
			short, _, _ := ber.Tree(b)
			out = append(out, moved(short, 2)...)
			i = after - 1
			continue
		case n.Depth == 2 && firstOf(n) == 0xa0 && end(nodes, i) == i+1:
			continue
		case firstOf(n) == 0x01 && n.Body == "\x00" && inControls(nodes, i):
			continue
		case firstOf(n) == 0x01 && n.Body != "\x00":
			n.Body = "\xff"
		}
		out = append(out, n)
	}
	b, err, _ := ber.Write(out)
	if err != api.OK {
		panic(err)
	}
	return b
}

// inControls tells whether the node of this number stands in an element A0 at the depth 2.
func inControls(nodes []api.Node, i int) bool {
	for j := i; j >= 0; j-- {
		if nodes[j].Depth == 2 {
			return firstOf(nodes[j]) == 0xa0
		}
	}
	return false
}

// The writing, told a second time.

func el(first byte, inside ...string) string {
	content := strings.Join(inside, "")
	length := len(content)
	head := []byte{first, byte(length)}
	switch {
	case length > 0xffff:
		head = []byte{first, 0x83, byte(length >> 16), byte(length >> 8), byte(length)}
	case length > 0xff:
		head = []byte{first, 0x82, byte(length >> 8), byte(length)}
	case length > 0x7f:
		head = []byte{first, 0x81, byte(length)}
	}
	return string(head) + content
}

func slowInt(n int) string {
	out := []byte{byte(n)}
	for n < -128 || n > 127 {
		n >>= 8
		out = append(out, byte(n))
	}
	slices.Reverse(out)
	return string(out)
}

func slowBool(v bool) string {
	if v {
		return "\xff"
	}
	return "\x00"
}

func only(there bool, s string) string {
	if there {
		return s
	}
	return ""
}

func slowValues(desc string, values []string) string {
	set := ""
	for _, v := range values {
		set += el(0x04, v)
	}
	return el(0x30, el(0x04, desc), el(0x31, set))
}

func slowAttributes(attrs []api.Attr) string {
	out := ""
	for _, a := range attrs {
		out += slowValues(a.Desc, a.Values)
	}
	return el(0x30, out)
}

func slowControls(list []api.Control) string {
	out := ""
	for _, c := range list {
		out += el(0x30, el(0x04, c.OID), only(c.Critical, "\x01\x01\xff"), only(c.HasValue, el(0x04, c.Value)))
	}
	return only(len(list) > 0, el(0xa0, out))
}

func slowSearch(s api.Search) string {
	f, err := filter.Encode(s.Filter)
	if err != api.OK {
		f = "\x05\x00"
	}
	names := ""
	for _, a := range s.Attributes {
		names += el(0x04, a)
	}
	return el(0x63, el(0x04, s.Base), el(0x0a, slowInt(int(s.Scope))), el(0x0a, slowInt(s.Deref)), el(0x02, slowInt(s.SizeLimit)), el(0x02, slowInt(s.TimeLimit)), el(0x01, slowBool(s.TypesOnly)), f, el(0x30, names))
}

func slowBind(b api.Bind) string {
	secret := el(0x80, b.Password)
	if b.Method == api.MethodSASL {
		secret = el(0xa3, el(0x04, b.Mechanism), only(b.HasCredentials, el(0x04, b.Credentials)))
	}
	return el(0x60, el(0x02, slowInt(b.Version)), el(0x04, b.Name), secret)
}

func slowOperation(r api.Request) string {
	name := el(0x04, r.Name)
	switch r.Kind {
	case api.KindBind:
		return slowBind(r.Bind)
	case api.KindUnbind:
		return el(0x42)
	case api.KindSearch:
		return slowSearch(r.Search)
	case api.KindModify:
		changes := ""
		for _, c := range r.Changes {
			changes += el(0x30, el(0x0a, slowInt(c.Kind)), slowValues(c.Desc, c.Values))
		}
		return el(0x66, name, el(0x30, changes))
	case api.KindAdd:
		return el(0x68, name, slowAttributes(r.Attributes))
	case api.KindDelete:
		return el(0x4a, r.Name)
	case api.KindRename:
		return el(0x6c, name, el(0x04, r.NewRDN), el(0x01, slowBool(r.DeleteOld)), only(r.HasNewSuperior, el(0x80, r.NewSuperior)))
	case api.KindCompare:
		return el(0x6e, name, el(0x30, el(0x04, r.Desc), el(0x04, r.Value)))
	case api.KindAbandon:
		return el(0x50, slowInt(r.Abandon))
	case api.KindExtended:
		return el(0x77, el(0x80, r.Name), only(r.HasValue, el(0x81, r.Value)))
	}
	return ""
}

var answerFirst = map[api.ReplyKind]byte{
	api.ReplyBind: 0x61, api.ReplyEntry: 0x64, api.ReplyDone: 0x65, api.ReplyModify: 0x67, api.ReplyAdd: 0x69,
	api.ReplyDelete: 0x6b, api.ReplyRename: 0x6d, api.ReplyCompare: 0x6f, api.ReplyExtended: 0x78,
}

func slowAnswer(p api.Reply) string {
	first, known := answerFirst[p.Kind]
	if !known {
		return ""
	}
	if p.Kind == api.ReplyEntry {
		return el(first, el(0x04, p.Name), slowAttributes(p.Attributes))
	}
	return el(first, el(0x0a, slowInt(int(p.Result.Code))), el(0x04, p.Result.Matched), el(0x04, p.Result.Text), only(p.HasOID, el(0x8a, p.OID)))
}

// The fields that a kind has, beside those of all kinds; a name with a ? only if the field Has.. says so.
var (
	requestFields = map[api.Kind]string{
		api.KindBind: "Bind", api.KindUnbind: "", api.KindSearch: "Search", api.KindModify: "Name Changes", api.KindAdd: "Name Attributes",
		api.KindDelete: "Name", api.KindRename: "Name NewRDN DeleteOld NewSuperior? HasNewSuperior", api.KindCompare: "Name Desc Value",
		api.KindAbandon: "Abandon", api.KindExtended: "Name Value? HasValue",
	}
	bindFields = map[api.Method]string{
		api.MethodSimple: "Version Name Method Password", api.MethodSASL: "Version Name Method Mechanism Credentials? HasCredentials",
	}
	replyFields = map[api.ReplyKind]string{
		api.ReplyBind: "Result", api.ReplyEntry: "Name Attributes", api.ReplyDone: "Result", api.ReplyModify: "Result", api.ReplyAdd: "Result",
		api.ReplyDelete: "Result", api.ReplyRename: "Result", api.ReplyCompare: "Result", api.ReplyExtended: "Result OID? HasOID",
	}
)

// ownAlone tells whether all fields but these are zero.
func ownAlone(v any, fields string) bool {
	s := reflect.ValueOf(v)
	for i := range s.NumField() {
		name := s.Type().Field(i).Name
		has := slices.Contains(strings.Fields(fields), name)
		if slices.Contains(strings.Fields(fields), name+"?") {
			has = s.FieldByName("Has" + name).Bool()
		}
		if !has && !zero(s.Field(i)) {
			return false
		}
	}
	return true
}

func controlsSound(list []api.Control) bool {
	for _, c := range list {
		if !ownAlone(c, "OID Critical Value? HasValue") {
			return false
		}
	}
	return true
}

func noCanon(attrs []api.Attr) bool {
	return !slices.ContainsFunc(attrs, func(a api.Attr) bool { return a.Canon != "" })
}

func slowEncodeRequest(r api.Request) (string, api.Errno) {
	fields, known := requestFields[r.Kind]
	if !known || !ownAlone(r, "ID Kind Controls "+fields) || !controlsSound(r.Controls) || !noCanon(r.Attributes) {
		return "", api.ErrCraft
	}
	if method, known := bindFields[r.Bind.Method]; !known || r.Kind == api.KindBind && !ownAlone(r.Bind, method) {
		return "", api.ErrCraft
	}
	s := el(0x30, el(0x02, slowInt(r.ID)), slowOperation(r), slowControls(r.Controls))
	if !fits(requestForm, s) {
		return "", api.ErrCraft
	}
	return s, api.OK
}

func slowEncodeReply(p api.Reply) (string, api.Errno) {
	fields, known := replyFields[p.Kind]
	if !known || !ownAlone(p, "ID Kind Controls "+fields) || !controlsSound(p.Controls) || !noCanon(p.Attributes) {
		return "", api.ErrCraft
	}
	s := el(0x30, el(0x02, slowInt(p.ID)), slowAnswer(p), slowControls(p.Controls))
	if !fits(replyForm, s) {
		return "", api.ErrCraft
	}
	return s, api.OK
}

// Answers held against the words; each tells whether the thing was taken.

func holdDecode(t *testing.T, s string) bool {
	t.Helper()
	asRequest, asReply := holdDecodeRequest(t, s), holdDecodeReply(t, s)
	if asRequest && asReply {
		t.Errorf("%x is a request's and a reply's", s)
	}
	return asRequest || asReply
}

func holdDecodeRequest(t *testing.T, s string) bool {
	t.Helper()
	r, err := DecodeRequest(s)
	if !fits(requestForm, s) {
		if err != api.ErrMessage || told(r) != "{}" {
			t.Errorf("DecodeRequest(%x) = %s, %d, want ErrMessage", s, told(r), err)
		}
		return false
	}
	if err != api.OK {
		t.Errorf("DecodeRequest(%x): %d", s, err)
		return true
	}
	want := shortest(s)
	if meant, err := slowEncodeRequest(r); err != api.OK || meant != want {
		t.Errorf("DecodeRequest(%x) = %s, which is %x, %d, want %x", s, told(r), meant, err, want)
	}
	if got, err := EncodeRequest(r); err != api.OK || got != want || len(got) > len(s) {
		t.Errorf("EncodeRequest(%s) = %x, %d, want %x", told(r), got, err, want)
	}
	return true
}

func holdDecodeReply(t *testing.T, s string) bool {
	t.Helper()
	p, err := DecodeReply(s)
	if !fits(replyForm, s) {
		if err != api.ErrMessage || told(p) != "{}" {
			t.Errorf("DecodeReply(%x) = %s, %d, want ErrMessage", s, told(p), err)
		}
		return false
	}
	if err != api.OK {
		t.Errorf("DecodeReply(%x): %d", s, err)
		return true
	}
	want := shortest(s)
	if meant, err := slowEncodeReply(p); err != api.OK || meant != want {
		t.Errorf("DecodeReply(%x) = %s, which is %x, %d, want %x", s, told(p), meant, err, want)
	}
	if got, err := EncodeReply(p); err != api.OK || got != want || len(got) > len(s) {
		t.Errorf("EncodeReply(%s) = %x, %d, want %x", told(p), got, err, want)
	}
	return true
}

func holdEncodeRequest(t *testing.T, r api.Request) bool {
	t.Helper()
	want, wantErr := slowEncodeRequest(r)
	s, err := EncodeRequest(r)
	if s != want || err != wantErr {
		t.Errorf("EncodeRequest(%s) = %x, %d, want %x, %d", told(r), s, err, want, wantErr)
	}
	if wantErr == api.OK {
		if back, err := DecodeRequest(want); err != api.OK || told(back) != told(r) {
			t.Errorf("DecodeRequest(%x) = %s, %d, want %s", want, told(back), err, told(r))
		}
	}
	return wantErr == api.OK
}

func holdEncodeReply(t *testing.T, p api.Reply) bool {
	t.Helper()
	want, wantErr := slowEncodeReply(p)
	s, err := EncodeReply(p)
	if s != want || err != wantErr {
		t.Errorf("EncodeReply(%s) = %x, %d, want %x, %d", told(p), s, err, want, wantErr)
	}
	if wantErr == api.OK {
		if back, err := DecodeReply(want); err != api.OK || told(back) != told(p) {
			t.Errorf("DecodeReply(%x) = %s, %d, want %s", want, told(back), err, told(p))
		}
	}
	return wantErr == api.OK
}

// Random things, with fixed seeds.

func pick[T any](r *rand.Rand, from ...T) T { return from[r.Intn(len(from))] }

func someList[T any](r *rand.Rand, longest int, one func(*rand.Rand) T) []T {
	var out []T
	for range r.Intn(longest + 1) {
		out = append(out, one(r))
	}
	return out
}

func someText(r *rand.Rand) string {
	return pick(r, "", "a", "o=x", "\xc3\xa9", "1.2", "\x00", "cn;lang-en", strings.Repeat("long ", r.Intn(80)))
}

func someValue(r *rand.Rand) string { return pick(r, someText(r), "\xff", "\xc3", "\x80\x00", "0") }

func someNumber(r *rand.Rand) int {
	return pick(r, 0, 1, 127, 128, 255, 256, 32767, 32768, 65535, 65536, 8388607, 8388608, api.MaxID-1, api.MaxID, r.Intn(api.MaxID))
}

func someBool(r *rand.Rand) bool { return r.Intn(2) == 0 }

func someAttr(r *rand.Rand) api.Attr {
	return api.Attr{Desc: someText(r), Values: someList(r, 3, someValue)}
}

func someFresh(r *rand.Rand) api.Attr {
	a := someAttr(r)
	a.Values = append(a.Values, someValue(r))
	return a
}

func someChange(r *rand.Rand) api.Change {
	return api.Change{Kind: r.Intn(3), Desc: someText(r), Values: someList(r, 3, someValue)}
}

func someControl(r *rand.Rand) api.Control {
	c := api.Control{OID: someText(r), Critical: someBool(r), HasValue: someBool(r)}
	c.Value = only(c.HasValue, someValue(r))
	return c
}

func someFilter(r *rand.Rand) api.Filter {
	f, err, _ := filter.Parse(pick(r, "(objectClass=*)", "(&)", "(|(cn=a)(!(sn>=b)))", "(cn=a*b*c)", "(cn:dn:2.5.13.5:=x)", "(!(:r:=y))", "(mail~=\\ff)", "(&(|)(o<=z)(cn=*))"))
	if err != api.OK {
		panic(err)
	}
	return f
}

func someBind(r *rand.Rand) api.Bind {
	b := api.Bind{Version: 1 + r.Intn(127), Name: someText(r)}
	if someBool(r) {
		b.Password = someValue(r)
		return b
	}
	b.Method, b.Mechanism, b.HasCredentials = api.MethodSASL, someText(r), someBool(r)
	b.Credentials = only(b.HasCredentials, someValue(r))
	return b
}

func someSearch(r *rand.Rand) api.Search {
	return api.Search{
		Base: someText(r), Scope: api.Scope(r.Intn(3)), Deref: r.Intn(4), SizeLimit: someNumber(r), TimeLimit: someNumber(r),
		TypesOnly: someBool(r), Filter: someFilter(r), Attributes: someList(r, 3, someText),
	}
}

// someRequest can be written.
func someRequest(r *rand.Rand) api.Request {
	q := api.Request{ID: max(1, someNumber(r)), Kind: api.Kind(r.Intn(10)), Controls: someList(r, 2, someControl)}
	switch q.Kind {
	case api.KindUnbind:
		return q
	case api.KindBind:
		q.Bind = someBind(r)
		return q
	case api.KindSearch:
		q.Search = someSearch(r)
		return q
	case api.KindAbandon:
		q.Abandon = someNumber(r)
		return q
	case api.KindModify:
		q.Changes = someList(r, 3, someChange)
	case api.KindAdd:
		q.Attributes = someList(r, 3, someFresh)
	case api.KindRename:
		q.NewRDN, q.DeleteOld, q.HasNewSuperior = someText(r), someBool(r), someBool(r)
		q.NewSuperior = only(q.HasNewSuperior, someText(r))
	case api.KindCompare:
		q.Desc, q.Value = someText(r), someValue(r)
	case api.KindExtended:
		q.HasValue = someBool(r)
		q.Value = only(q.HasValue, someValue(r))
	}
	q.Name = someText(r)
	return q
}

// someReply can be written.
func someReply(r *rand.Rand) api.Reply {
	p := api.Reply{ID: max(1, someNumber(r)), Kind: api.ReplyKind(r.Intn(9)), Controls: someList(r, 2, someControl)}
	if p.Kind == api.ReplyEntry {
		p.Name, p.Attributes = someText(r), someList(r, 3, someAttr)
		return p
	}
	p.Result = api.Result{Code: api.Code(r.Intn(128)), Matched: someText(r), Text: someText(r)}
	if p.Kind == api.ReplyExtended {
		p.ID, p.HasOID = someNumber(r), someBool(r)
		p.OID = only(p.HasOID, someText(r))
	}
	return p
}

func someBytes(r *rand.Rand, longest int) string {
	b := make([]byte, r.Intn(longest+1))
	r.Read(b)
	return string(b)
}

// places are all that can be set in a value: numbers, texts, bools and lists, however deep.
func places(v reflect.Value) []reflect.Value {
	var out []reflect.Value
	switch v.Kind() {
	case reflect.Struct:
		for i := range v.NumField() {
			out = append(out, places(v.Field(i))...)
		}
		return out
	case reflect.Slice:
		for i := range v.Len() {
			out = append(out, places(v.Index(i))...)
		}
	}
	return append(out, v)
}

// spoilPlace writes something else there, that may be wrong.
func spoilPlace(r *rand.Rand, v reflect.Value) {
	switch v.Kind() {
	case reflect.Bool:
		v.SetBool(!v.Bool())
	case reflect.String:
		v.SetString(pick(r, "", "x", "\xff", "\xed\xa0\x80", "\xc3\xa9", strings.Repeat("y", 130)))
	case reflect.Slice:
		switch list := v; {
		case v.Len() > 0 && someBool(r):
			v.Set(list.Slice(1, list.Len()))
		default:
			v.Set(reflect.Append(list, reflect.Zero(list.Type().Elem())))
		}
	default:
		v.SetInt(pick[int64](r, -1<<63, -1<<31, -129, -128, -1, 0, 1, 2, 3, 4, 8, 9, 10, 126, 127, 128, 255, 256, api.MaxID, api.MaxID+1, 1<<32, 1<<32+1, 1<<63-1))
	}
}

// spoilOne changes one thing in what v points to, whose lists are nobody else's.
func spoilOne(r *rand.Rand, v any) {
	spoilPlace(r, pick(r, places(reflect.ValueOf(v).Elem())...))
}
