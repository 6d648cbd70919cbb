package url

import (
	"fmt"
	"reflect"
	"regexp"
	"slices"
	"strconv"
	"strings"
	"testing"

	"roster/api"
	"roster/attr"
	"roster/dn"
	"roster/filter"
)

// told is a value as a text: what has another text is another value, but that nil and empty lists are the same.
func told(v any) string {
	var out strings.Builder
	tell(&out, reflect.ValueOf(v))
	return out.String()
}

func tell(out *strings.Builder, v reflect.Value) {
	switch v.Kind() {
	case reflect.Struct:
		out.WriteString("{")
		for i := range v.NumField() {
			if f := v.Field(i); !blank(f) {
				out.WriteString(v.Type().Field(i).Name + ":")
				tell(out, f)
				out.WriteString(" ")
			}
		}
		out.WriteString("}")
	case reflect.Slice:
		out.WriteString("[")
		for i := range v.Len() {
			tell(out, v.Index(i))
			out.WriteString(" ")
		}
		out.WriteString("]")
	case reflect.String:
		fmt.Fprintf(out, "%q", v.String())
	default:
		fmt.Fprint(out, v.Interface())
	}
}

// blank tells whether a value is the zero value, but for lists that are empty and not nil.
func blank(v reflect.Value) bool {
	switch v.Kind() {
	case reflect.Struct:
		for i := range v.NumField() {
			if !blank(v.Field(i)) {
				return false
			}
		}
		return true
	case reflect.Slice:
		return v.Len() == 0
	}
	return v.IsZero()
}

func node(op api.FilterOp, desc, value string) api.FilterNode {
	return api.FilterNode{Depth: 1, Op: op, Desc: desc, Value: value}
}

func one(n api.FilterNode) api.Filter { return api.Filter{n} }

// The chapter told a second time: by expressions, and with places in the whole text.

const (
	oneType = `(?:[A-Za-z][A-Za-z0-9-]*|(?:0|[1-9][0-9]*)(?:\.(?:0|[1-9][0-9]*))+)`
	oneCode = `%[0-9A-Fa-f]{2}`
)

var (
	formScheme  = regexp.MustCompile(`^[lL][dD][aA][pP]://`)
	formCode    = regexp.MustCompile(oneCode)
	formMeant   = regexp.MustCompile(`^(?:[!-$&-~]|` + oneCode + `)*`)
	formNoisy   = regexp.MustCompile(`[^-A-Za-z0-9._~!$&'()*+;=:@/]`)
	formHost    = regexp.MustCompile(`^[A-Za-z0-9.-]{1,255}$`)
	formRow     = regexp.MustCompile(`^[A-Za-z0-9.-]*`)
	formLiteral = regexp.MustCompile(`^\[[0-9A-Fa-f:.]{2,45}\]$`)
	formOpen    = regexp.MustCompile(`^\[[^\]]*\]`)
	formPort    = regexp.MustCompile(`^([1-9][0-9]{0,3}|[1-5][0-9]{4}|6[0-4][0-9]{3}|65[0-4][0-9]{2}|655[0-2][0-9]|6553[0-5])$`)
	formType    = regexp.MustCompile(`^` + oneType + `$`)
	formWish    = regexp.MustCompile(`^([*]|[+]|1[.]1|` + oneType + `(;[A-Za-z0-9-]+)*)$`)
)

func slowEscape(s string) string {
	var latin []rune // each byte a character of its own
	for i := range len(s) {
		latin = append(latin, rune(s[i]))
	}
	return formNoisy.ReplaceAllStringFunc(string(latin), func(b string) string { return fmt.Sprintf("%%%02X", []rune(b)[0]) })
}

func slowUnescape(s string) (string, api.Errno, int) {
	good := formMeant.FindString(s)
	if good != s {
		return "", 182, len(good)
	}
	return formCode.ReplaceAllStringFunc(s, func(code string) string {
		b, _ := strconv.ParseUint(code[1:], 16, 8)
		return string([]byte{byte(b)})
	}), 0, 0
}

func slowHost(s string) bool {
	return formHost.MatchString(s) || formLiteral.MatchString(s) && strings.Count(s, ":") > 1
}

func slowName(s string) bool {
	_, err := dn.Parse(s)
	return err == nil
}

// slowReader is a URL's text; it gives up by a panic.
type slowReader string

type slowFault struct {
	number api.Errno
	place  int
}

// slowParse is the section 'How a text is read', step by step.
func slowParse(s string) (u api.URL, number api.Errno, place int) {
	defer func() {
		if f, ok := recover().(slowFault); ok {
			u, number, place = api.URL{}, f.number, f.place
		}
	}()
	if !formScheme.MatchString(s) {
		return api.URL{}, 180, 0
	}
	r, slash := slowReader(s), 7
	for slash < len(s) && s[slash] != '/' {
		slash++
	}
	u.Host, u.Port = r.server(slash)
	if slash == len(s) {
		return u, 0, 0
	}
	marks := []int{slash}
	for i := slash + 1; i < len(s) && len(marks) < 5; i++ {
		if s[i] == '?' {
			marks = append(marks, i)
		}
	}
	// A piece that isn't there stands at the text's end, without a byte.
	for len(marks) < 6 {
		marks = append(marks, len(s))
	}
	from, to := func(n int) int { return min(marks[n]+1, len(s)) }, func(n int) int { return marks[n+1] }
	u.DN = r.name(from(0), to(0))
	u.Attributes = r.attributes(from(1), to(1))
	u.Scope, u.HasScope = r.scope(from(2), to(2))
	u.Filter = r.filter(from(3), to(3))
	u.Extensions = r.extensions(from(4), to(4))
	return u, 0, 0
}

func (r slowReader) server(end int) (string, int) {
	part := string(r[7:end])
	if part == "" {
		return "", 0
	}
	host := formRow.FindString(part)
	if part[0] == '[' {
		host = formOpen.FindString(part)
	}
	if !slowHost(host) {
		panic(slowFault{181, 7})
	}
	switch rest := part[len(host):]; {
	case rest == "":
		return host, 0
	case rest[0] != ':':
		panic(slowFault{181, 7 + len(host)})
	case !formPort.MatchString(rest[1:]):
		panic(slowFault{181, 7 + len(host) + 1})
	default:
		port, _ := strconv.Atoi(rest[1:])
		return host, port
	}
}

func (r slowReader) meant(from, to int) string {
	s, number, place := slowUnescape(string(r[from:to]))
	if number != 0 {
		panic(slowFault{number, from + place})
	}
	return s
}

func (r slowReader) name(from, to int) string {
	name := r.meant(from, to)
	if !slowName(name) {
		panic(slowFault{183, from})
	}
	return name
}

// cuts are where those begin and end that commas part.
func (r slowReader) cuts(from, to int) [][2]int {
	if from == to {
		return nil
	}
	out := [][2]int{{from, to}}
	for i := from; i < to; i++ {
		if r[i] == ',' {
			out[len(out)-1][1] = i
			out = append(out, [2]int{i + 1, to})
		}
	}
	return out
}

func (r slowReader) attributes(from, to int) (out []string) {
	for _, cut := range r.cuts(from, to) {
		wish := r.meant(cut[0], cut[1])
		if !formWish.MatchString(wish) {
			panic(slowFault{184, cut[0]})
		}
		out = append(out, wish)
	}
	return out
}

func (r slowReader) scope(from, to int) (api.Scope, bool) {
	if from == to {
		return 0, false
	}
	scope := slices.Index([]string{"base", "one", "sub"}, lower(string(r[from:to])))
	if scope < 0 {
		panic(slowFault{185, from})
	}
	return api.Scope(scope), true
}

func (r slowReader) filter(from, to int) api.Filter {
	if from == to {
		return nil
	}
	f, err, _ := filter.Parse(r.meant(from, to))
	if err != api.OK {
		panic(slowFault{186, from})
	}
	return f
}

func (r slowReader) extensions(from, to int) (out []api.Extension) {
	for _, cut := range r.cuts(from, to) {
		at, end := cut[0], cut[1]
		var e api.Extension
		if at < end && r[at] == '!' {
			e.Critical = true
			at++
		}
		sign := at
		for sign < end && r[sign] != '=' {
			sign++
		}
		e.Type = string(r[at:sign])
		if !formType.MatchString(e.Type) {
			panic(slowFault{187, cut[0]})
		}
		if sign < end {
			e.HasValue, e.Value = true, r.value(sign+1, end)
		}
		out = append(out, e)
	}
	return out
}

func (r slowReader) value(from, to int) string {
	value, number, place := slowUnescape(string(r[from:to]))
	mark := strings.Index(string(r[from:to]), "?")
	switch {
	case mark >= 0 && (number == 0 || mark < place):
		panic(slowFault{182, from + mark})
	case number != 0:
		panic(slowFault{182, from + place})
	}
	return value
}

// lower folds byte by byte: strings.ToLower would turn letters beyond ASCII as well.
func lower(s string) string {
	out := []byte(s)
	for i, b := range out {
		if strings.IndexByte("ABCDEFGHIJKLMNOPQRSTUVWXYZ", b) >= 0 {
			out[i] = b + 32
		}
	}
	return string(out)
}

// slowMade is the word 'made well'.
func slowMade(u api.URL) bool {
	here := u.Host == "" && u.Port == 0 || slowHost(u.Host) && u.Port >= 0 && u.Port < 65536
	scope := u.HasScope && u.Scope >= 0 && u.Scope <= 2 || !u.HasScope && u.Scope == 0
	_, err := filter.Print(u.Filter)
	sound := here && slowName(u.DN) && scope && (len(u.Filter) == 0 || err == api.OK)
	for _, a := range u.Attributes {
		sound = sound && formWish.MatchString(a)
	}
	for _, e := range u.Extensions {
		sound = sound && formType.MatchString(e.Type) && (e.HasValue || e.Value == "")
	}
	return sound
}

// slowPrint is P18.4.
func slowPrint(u api.URL) (string, api.Errno) {
	if !slowMade(u) {
		return "", 188
	}
	var attributes, extensions, commas []string
	for _, a := range u.Attributes {
		attributes = append(attributes, slowEscape(a))
	}
	for _, e := range u.Extensions {
		s := map[bool]string{true: "!"}[e.Critical] + slowEscape(e.Type)
		if e.HasValue {
			s += "=" + slowEscape(e.Value)
		}
		extensions = append(extensions, s)
	}
	written, _ := filter.Print(u.Filter)
	for _, s := range []string{u.DN, written} {
		cuts := strings.Split(s, ",")
		for i := range cuts {
			cuts[i] = slowEscape(cuts[i])
		}
		commas = append(commas, strings.Join(cuts, ","))
	}
	scope := ""
	if u.HasScope {
		scope = []string{"base", "one", "sub"}[u.Scope]
	}
	texts := []string{commas[0], strings.Join(attributes, ","), scope, commas[1], strings.Join(extensions, ",")}
	for len(texts) > 0 && texts[len(texts)-1] == "" {
		texts = texts[:len(texts)-1]
	}
	out := "ldap://" + u.Host
	if u.Port != 0 {
		out += fmt.Sprintf(":%d", u.Port)
	}
	return out + "/" + strings.Join(texts, "?"), 0
}

// slowSearch is P18.5.
func slowSearch(u api.URL) (api.Search, api.Errno) {
	if !slowMade(u) {
		return api.Search{}, 188
	}
	for _, e := range u.Extensions {
		if e.Critical {
			return api.Search{}, 187
		}
	}
	q := api.Search{Base: u.DN, Scope: u.Scope, Filter: u.Filter, Attributes: u.Attributes}
	if len(u.Filter) == 0 {
		q.Filter = one(node(7, "objectClass", ""))
	}
	return q, 0
}

// slowFrom is P18.6.
func slowFrom(q api.Search) (api.URL, api.Errno) {
	u := api.URL{DN: q.Base, Attributes: q.Attributes, Scope: q.Scope, HasScope: q.Scope != 0, Filter: q.Filter}
	if told(q.Filter) == told(one(node(7, "objectClass", ""))) {
		u.Filter = nil
	}
	if !slowMade(u) || len(q.Filter) == 0 {
		return api.URL{}, 188
	}
	return u, 0
}

// slowWished is what is wished, rising.
func slowWished(attributes []string) []string {
	if len(attributes) == 0 {
		return []string{"*"}
	}
	var out []string
	for _, a := range attributes {
		if a != "*" && a != "+" {
			a, _, _ = attr.Canonical(a)
		}
		out = append(out, a)
	}
	slices.Sort(out)
	out = slices.Compact(out)
	if len(out) > 1 {
		out = slices.DeleteFunc(out, func(a string) bool { return a == "1.1" })
	}
	return out
}

// slowSame is P18.7: URLs are the same if this text of them is; false, if Search refuses it.
func slowSame(u api.URL) (string, bool) {
	q, number := slowSearch(u)
	if number != 0 {
		return "", false
	}
	if u.Port == 0 {
		u.Port = 389
	}
	key, _ := dn.KeyOf(u.DN)
	return fmt.Sprintf("%q %d %q %d %q %s", lower(u.Host), u.Port, key, u.Scope, slowWished(u.Attributes), told(q.Filter)), true
}

// holdParsed holds Parse, and all calls that take what it answers, against the chapter told a second time.
func holdParsed(t testing.TB, s string) api.Errno {
	t.Helper()
	want, number, place := slowParse(s)
	u, err, at := Parse(s)
	if told(u) != told(want) || err != number || at != place {
		t.Fatalf("Parse(%.300q) = %.500s, %d, %d; want %.500s, %d, %d", s, told(u), err, at, told(want), number, place)
	}
	if err == api.OK {
		holdURL(t, u)
	}
	return err
}

// holdURL holds Print and Search of a URL, which need not be made well, and that Parse and From take back what they answer.
func holdURL(t testing.TB, u api.URL) {
	t.Helper()
	want, number := slowPrint(u)
	s, err := Print(u)
	if s != want || err != number {
		t.Fatalf("Print(%.500s) = %.300q, %d; want %.300q, %d", told(u), s, err, want, number)
	}
	if err == api.OK {
		if back, err, at := Parse(s); told(back) != told(u) || err != api.OK || at != 0 {
			t.Fatalf("Parse(Print(%.500s)) = %.500s, %d, %d", told(u), told(back), err, at)
		}
	}
	wantSearch, number := slowSearch(u)
	q, err := Search(u)
	if told(q) != told(wantSearch) || err != number {
		t.Fatalf("Search(%.500s) = %.500s, %d; want %.500s, %d", told(u), told(q), err, told(wantSearch), number)
	}
	if err == api.OK {
		holdSearch(t, q)
	}
	if Same(u, u) != (err == api.OK) {
		t.Fatalf("Same of %.500s and itself is %v", told(u), err != api.OK)
	}
}

// holdSearch holds From of a search, of which there need be no URL, and that Search takes back what it answers.
func holdSearch(t testing.TB, q api.Search) {
	t.Helper()
	want, number := slowFrom(q)
	u, err := From(q)
	if told(u) != told(want) || err != number {
		t.Fatalf("From(%.500s) = %.500s, %d; want %.500s, %d", told(q), told(u), err, told(want), number)
	}
	if err != api.OK {
		return
	}
	back, err := Search(u)
	if q := (api.Search{Base: q.Base, Scope: q.Scope, Filter: q.Filter, Attributes: q.Attributes}); told(back) != told(q) || err != api.OK {
		t.Fatalf("Search(From(%.500s)) = %.500s, %d", told(q), told(back), err)
	}
}

// holdSame holds Same, both ways about.
func holdSame(t testing.TB, u, v api.URL) bool {
	t.Helper()
	uText, uTaken := slowSame(u)
	vText, vTaken := slowSame(v)
	want := uTaken && vTaken && uText == vText
	if Same(u, v) != want || Same(v, u) != want {
		t.Fatalf("Same of %.500s and %.500s is %v and %v, want %v", told(u), told(v), Same(u, v), Same(v, u), want)
	}
	return want
}

// forAll calls f with every text of at most longest letters.
func forAll(letters []string, longest int, f func(s string)) {
	var grow func(front string, left int)
	grow = func(front string, left int) {
		f(front)
		if left == 0 {
			return
		}
		for _, letter := range letters {
			grow(front+letter, left-1)
		}
	}
	grow("", longest)
}
