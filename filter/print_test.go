package filter

import (
	"fmt"
	"math/rand"
	"testing"

	"roster/api"
)

func holdPrint(t *testing.T, f api.Filter, text string, err api.Errno) {
	t.Helper()
	if got, gotErr := Print(f); got != text || gotErr != err {
		t.Errorf("Print(%s) = %q, %d, want %q, %d", told(f), got, gotErr, text, err)
	}
}

// P12.3: the chapter's examples, and nodes of each Op.
func TestPrint(t *testing.T) {
	for text, f := range map[string]api.Filter{
		`(cn=a\28\00\c3\a9)`: list(eq(1, "cn", "a(\x00\xc3\xa9")),
		"(cn:dn:r:=x)":       list(ext(1, "cn", "r", "x", true)),
		"(&)":                list(op(1, api.And)), "(|)": list(op(1, api.Or)), "(!(&))": list(op(1, api.Not), op(2, api.And)),
		"(cn=)": list(eq(1, "cn", "")), "(cn>=a b)": list(with(1, api.AtLeast, "cn", "a b")), "(cn<=~)": list(with(1, api.AtMost, "cn", "~")), "(cn~=:=)": list(with(1, api.Approx, "cn", ":=")),
		"(CN;X=*)": list(has(1, "CN;X")), `(cn=\2a)`: list(eq(1, "cn", "*")),
		"(cn=a*)": list(sub(1, "cn", "a", nil, "")), "(cn=*b)": list(sub(1, "cn", "", nil, "b")), "(cn=*c*)": list(sub(1, "cn", "", []string{"c"}, "")), `(cn=a*\2a*\5c*b)`: list(sub(1, "cn", "a", []string{"*", `\`}, "b")),
		"(cn:=x)": list(ext(1, "cn", "", "x", false)), "(cn:dn:=x)": list(ext(1, "cn", "", "x", true)), "(:r:=)": list(ext(1, "", "r", "", false)), `(:dn:R:=\29)`: list(ext(1, "", "R", ")", true)), "(dn:DNA:=x)": list(ext(1, "dn", "DNA", "x", false)),
		"(&(a=b)(|(c=d)(!(e=*)))(f=g))": list(op(1, api.And), eq(2, "a", "b"), op(2, api.Or), eq(3, "c", "d"), op(3, api.Not), has(4, "e"), eq(2, "f", "g")),
		"(&(|(!(a=*)))(b=*))":           list(op(1, api.And), op(2, api.Or), op(3, api.Not), has(4, "a"), has(2, "b")),
	} {
		holdPrint(t, f, text, api.OK)
	}
}

// P12.3: what is no filter has Check's error, whatever else is wrong with it.
func TestPrintOfNoFilter(t *testing.T) {
	for _, f := range []api.Filter{nil, {}, list(op(1, api.Not)), list(eq(2, "cn", "")), list(op(1, api.And), eq(2, "no desc", ""), op(7, 7)), list(op(1, 10)), list(eq(1, "\xff", ""))} {
		holdPrint(t, f, "", api.ErrFilter)
	}
	holdPrint(t, append(list(op(1, api.And), has(2, "no desc")), chain(api.And, 65)[1:]...), "", api.ErrDeep)
}

// P12.3: filters that have no text: the Desc and the Rule of each Op.
func TestPrintOfNoText(t *testing.T) {
	for _, desc := range []string{"", "no desc", "cn;", ";x", "1", "01.2", "-a", "cn;;x", "\xc3\xa9", "(", "cn=", "cn:dn", "a\x00"} {
		for _, n := range []api.FilterNode{eq(1, desc, "x"), has(1, desc), with(1, api.AtLeast, desc, ""), with(1, api.AtMost, desc, ""), with(1, api.Approx, desc, ""), sub(1, desc, "x", nil, ""), ext(1, desc, "r", "", false)} {
			if n.Op == api.Extensible && desc == "" {
				continue
			}
			holdPrint(t, list(n), "", api.ErrDesc)
			n.Depth = 2
			holdPrint(t, list(op(1, api.And), has(2, "cn"), n), "", api.ErrDesc)
			holdPrint(t, list(op(1, api.And), n, has(2, "cn")), "", api.ErrDesc)
		}
	}
	for _, rule := range []string{"dn", "DN", "dN", "Dn", "cn;x", "1", "a b", "-", "1.", "r:", "\xc3\xa9"} {
		for _, desc := range []string{"", "cn"} {
			for _, names := range []bool{false, true} {
				holdPrint(t, list(ext(1, desc, rule, "x", names)), "", api.ErrDesc)
			}
		}
	}
}

// P12.3: every byte in a value and in each kind of piece; read back it is the same filter.
func TestPrintOfEveryByte(t *testing.T) {
	for b := range 256 {
		value := "<" + string([]byte{byte(b)}) + ">"
		want := value
		switch {
		case b < 0x20 || b > 0x7E || b == '(' || b == ')' || b == '*' || b == '\\':
			want = fmt.Sprintf(`<\%02x>`, b)
		}
		holdPrint(t, list(eq(1, "cn", value)), "(cn="+want+")", api.OK)
		holdPrint(t, list(ext(1, "cn", "", value, false)), "(cn:="+want+")", api.OK)
		f := list(sub(1, "cn", value, []string{value}, value))
		holdPrint(t, f, "(cn="+want+"*"+want+"*"+want+")", api.OK)
		back, _, _ := Parse("(cn=" + want + "*" + want + "*" + want + ")")
		hold(t, "Parse", back, f)
	}
}

// P12.2, P12.3: Parse of Print is the filter; Print of Parse is a text of the same filter.
func TestTextThereAndBack(t *testing.T) {
	r := rand.New(rand.NewSource(123))
	for range 2000 {
		f := someFilter(r)
		holdPrint(t, f, slowPrint(slowTree(f)), api.OK)
		s, _ := Print(f)
		back, err, _ := Parse(s)
		if err != api.OK {
			t.Errorf("Parse(%q): %d", s, err)
		}
		hold(t, "Parse of "+s, back, f)
	}
	for range 3000 {
		f := someList(r)
		err, _ := slowCheck(f)
		switch {
		case err != api.OK:
			holdPrint(t, f, "", err)
		case !slowHasText(f):
			holdPrint(t, f, "", api.ErrDesc)
		default:
			holdPrint(t, f, slowPrint(slowTree(f)), api.OK)
		}
	}
}
