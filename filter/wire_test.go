package filter

import (
	"math/rand"
	"slices"
	"strings"
	"testing"

	"roster/api"
	"roster/ber"
)

func holdEncode(t *testing.T, f api.Filter, b string, err api.Errno) {
	t.Helper()
	if got, gotErr := Encode(f); got != b || gotErr != err {
		t.Errorf("Encode(%s) = %x, %d, want %x, %d", told(f), got, gotErr, b, err)
	}
}

// P12.4, P12.5: the chapter's examples, and nodes of each Op.
func TestElements(t *testing.T) {
	for b, f := range map[string]api.Filter{
		"\x87\x02cn":                    list(has(1, "cn")),
		"\xa3\x07\x04\x02cn\x04\x01a":   list(eq(1, "cn", "a")),
		"\xa0\x00":                      list(op(1, api.And)),
		"\xa1\x00":                      list(op(1, api.Or)),
		"\xa2\x02\xa0\x00":              list(op(1, api.Not), op(2, api.And)),
		"\x87\x00":                      list(has(1, "")),
		"\xa3\x04\x04\x00\x04\x00":      list(eq(1, "", "")),
		"\xa5\x06\x04\x01a\x04\x01\xff": list(with(1, api.AtLeast, "a", "\xff")),
		"\xa6\x06\x04\x01a\x04\x01b":    list(with(1, api.AtMost, "a", "b")),
		"\xa8\x06\x04\x01a\x04\x01b":    list(with(1, api.Approx, "a", "b")),

		"\xa4\x0c\x04\x02cn\x30\x06\x80\x01a\x81\x01b":                    list(sub(1, "cn", "a", []string{"b"}, "")),
		"\xa4\x07\x04\x00\x30\x03\x80\x01a":                               list(sub(1, "", "a", nil, "")),
		"\xa4\x07\x04\x00\x30\x03\x81\x01a":                               list(sub(1, "", "", []string{"a"}, "")),
		"\xa4\x07\x04\x00\x30\x03\x82\x01a":                               list(sub(1, "", "", nil, "a")),
		"\xa4\x10\x04\x00\x30\x0c\x80\x01a\x81\x01\xff\x81\x01c\x82\x01d": list(sub(1, "", "a", []string{"\xff", "c"}, "d")),

		"\xa9\x0a\x82\x02cn\x83\x01x\x84\x01\xff":            list(ext(1, "cn", "", "x", true)),
		"\xa9\x07\x82\x02cn\x83\x01x":                        list(ext(1, "cn", "", "x", false)),
		"\xa9\x05\x81\x01r\x83\x00":                          list(ext(1, "", "r", "", false)),
		"\xa9\x0c\x81\x01r\x82\x01a\x83\x01\x00\x84\x01\xff": list(ext(1, "a", "r", "\x00", true)),

		"\xa0\x0c\xa2\x03\x87\x01a\xa1\x05\x87\x01b\xa0\x00": list(op(1, api.And), op(2, api.Not), has(3, "a"), op(2, api.Or), has(3, "b"), op(3, api.And)),
	} {
		holdEncode(t, f, b, api.OK)
		got, err := Decode(b)
		if err != api.OK {
			t.Errorf("Decode(%x): %d", b, err)
		}
		hold(t, "Decode", got, f)
		if want, wantErr := slowEncode(f); want != b || wantErr != api.OK {
			t.Errorf("the words tell %x, %d of %s", want, wantErr, told(f))
		}
	}
}

// P12.4: more forms are read than written: longer lengths, any byte for a true DNAttrs, a false one that is there.
func TestDecodeOtherForms(t *testing.T) {
	for b, want := range map[string]api.FilterNode{
		"\xa9\x0a\x82\x02cn\x83\x01x\x84\x01\x00":                          ext(1, "cn", "", "x", false),
		"\xa9\x0a\x82\x02cn\x83\x01x\x84\x01\x01":                          ext(1, "cn", "", "x", true),
		"\xa9\x0a\x82\x02cn\x83\x01x\x84\x01\x80":                          ext(1, "cn", "", "x", true),
		"\xa9\x08\x81\x01r\x83\x00\x84\x01\x00":                            ext(1, "", "r", "", false),
		"\x87\x84\x00\x00\x00\x02cn":                                       has(1, "cn"),
		"\xa3\x81\x08\x04\x81\x02cn\x04\x01a":                              eq(1, "cn", "a"),
		"\xa4\x82\x00\x0f\x04\x02cn\x30\x83\x00\x00\x06\x80\x01a\x81\x01b": sub(1, "cn", "a", []string{"b"}, ""),
		"\xa9\x81\x0e\x82\x82\x00\x02cn\x83\x81\x01x\x84\x81\x01\xff":      ext(1, "cn", "", "x", true),
	} {
		got, err := Decode(b)
		if err != api.OK {
			t.Errorf("Decode(%x): %d", b, err)
		}
		hold(t, "Decode", got, list(want))
	}
}

// P12.4: what is no element has the error of ber.Tree; what is an element, but no filter's, ErrFilter.
func TestDecodeRefused(t *testing.T) {
	for b, want := range map[string]api.Errno{
		"": api.ErrShort, "\xa0\x01": api.ErrShort, "\xa0": api.ErrShort, "\xa0\x01\x87": api.ErrOver, "\xa0\x00\x00": api.ErrTrail, "\x87\x00\x00": api.ErrTrail, "\xbf\x00": api.ErrTag, "\xa0\x80": api.ErrIndefinite, "\xa0\x85": api.ErrLength,
		"\x30\x80":                           api.ErrIndefinite, // no filter's tag, but ber is asked first
		"\xa3\x02\x04\x05":                   api.ErrOver,
		strings.Repeat("x", 3):               api.ErrShort,
		"\xa2\x00":                           api.ErrFilter,
		"\xa4\x06\x04\x02cn\x30\x00":         api.ErrFilter,
		"\x87\x01\xff":                       api.ErrFilter,
		"\xa9\x05\x82\x00\x83\x01x":          api.ErrFilter,
		"\xa9\x05\x81\x00\x83\x01x":          api.ErrFilter,
		"\xa9\x07\x81\x00\x82\x00\x83\x01x":  api.ErrFilter,
		"\xa9\x08\x81\x00\x82\x01a\x83\x01x": api.ErrFilter,
		"\xa9\x08\x81\x01a\x82\x00\x83\x01x": api.ErrFilter,
		"\xa9\x03\x83\x01x":                  api.ErrFilter,
		"\xa9\x00":                           api.ErrFilter,

		"\x30\x00": api.ErrFilter, "\x04\x00": api.ErrFilter, "\x67\x00": api.ErrFilter, "\xe0\x00": api.ErrFilter, "\xaa\x00": api.ErrFilter, "\x8a\x00": api.ErrFilter, "\xbe\x00": api.ErrFilter, // another class or tag
		"\x80\x00": api.ErrFilter, "\x81\x00": api.ErrFilter, "\x82\x00": api.ErrFilter, "\x83\x00": api.ErrFilter, "\x84\x00": api.ErrFilter, "\x89\x00": api.ErrFilter, "\xa7\x00": api.ErrFilter, "\xa7\x02\x04\x00": api.ErrFilter, // made or not
		"\xa2\x04\xa0\x00\xa0\x00": api.ErrFilter, "\xa0\x02\x30\x00": api.ErrFilter, "\xa1\x02\x04\x00": api.ErrFilter, "\xa2\x02\x04\x00": api.ErrFilter, "\xa0\x04\xa0\x00\x04\x00": api.ErrFilter,

		"\xa3\x00": api.ErrFilter, "\xa3\x02\x04\x00": api.ErrFilter, "\xa3\x06\x04\x00\x04\x00\x04\x00": api.ErrFilter, "\xa3\x06\x04\x00\x04\x00\x05\x00": api.ErrFilter, "\xa3\x04\x04\x00\x24\x00": api.ErrFilter, "\xa3\x04\x24\x00\x04\x00": api.ErrFilter, "\xa3\x04\x04\x00\x0c\x00": api.ErrFilter, "\xa3\x04\x84\x00\x04\x00": api.ErrFilter, "\xa3\x05\x04\x01\xff\x04\x00": api.ErrFilter, "\xa8\x05\x04\x01\xc3\x04\x00": api.ErrFilter, "\xa5\x02\x04\x00": api.ErrFilter, "\xa6\x02\x04\x00": api.ErrFilter,

		"\xa4\x02\x04\x00": api.ErrFilter, "\xa4\x05\x30\x03\x80\x01a": api.ErrFilter, "\xa4\x04\x04\x00\x04\x00": api.ErrFilter, "\xa4\x07\x04\x00\x31\x03\x80\x01a": api.ErrFilter, "\xa4\x07\x04\x00\x10\x03\x80\x01a": api.ErrFilter,
		"\xa4\x09\x04\x00\x30\x03\x80\x01a\x04\x00": api.ErrFilter, "\xa4\x0c\x04\x00\x30\x03\x80\x01a\x30\x03\x82\x01b": api.ErrFilter,
		"\xa4\x06\x04\x00\x30\x02\x80\x00": api.ErrFilter, "\xa4\x06\x04\x00\x30\x02\x81\x00": api.ErrFilter, "\xa4\x06\x04\x00\x30\x02\x82\x00": api.ErrFilter, // pieces of no bytes
		"\xa4\x09\x04\x00\x30\x05\x80\x00\x81\x01a": api.ErrFilter, "\xa4\x09\x04\x00\x30\x05\x80\x01a\x81\x00": api.ErrFilter, "\xa4\x09\x04\x00\x30\x05\x81\x01a\x82\x00": api.ErrFilter,
		"\xa4\x0a\x04\x00\x30\x06\x80\x01a\x80\x01b": api.ErrFilter, "\xa4\x0a\x04\x00\x30\x06\x81\x01a\x80\x01b": api.ErrFilter, "\xa4\x0a\x04\x00\x30\x06\x82\x01a\x82\x01b": api.ErrFilter, "\xa4\x0a\x04\x00\x30\x06\x82\x01a\x81\x01b": api.ErrFilter, "\xa4\x0a\x04\x00\x30\x06\x82\x01a\x80\x01b": api.ErrFilter,
		"\xa4\x07\x04\x00\x30\x03\x83\x01a": api.ErrFilter, "\xa4\x07\x04\x00\x30\x03\x04\x01a": api.ErrFilter, "\xa4\x06\x04\x00\x30\x02\xa0\x00": api.ErrFilter, "\xa4\x08\x04\x01\xff\x30\x03\x80\x01a": api.ErrFilter,

		"\xa9\x03\x82\x01a": api.ErrFilter, "\xa9\x06\x83\x01x\x82\x01a": api.ErrFilter, "\xa9\x08\x82\x01a\x81\x01r\x83\x00": api.ErrFilter, "\xa9\x08\x84\x01\xff\x82\x01a\x83\x00": api.ErrFilter, "\xa9\x08\x82\x01a\x84\x01\xff\x83\x00": api.ErrFilter, // parts in another order, or missing
		"\xa9\x07\x82\x01a\x83\x00\x83\x00": api.ErrFilter, "\xa9\x08\x82\x01a\x82\x01a\x83\x00": api.ErrFilter, "\xa9\x08\x81\x01a\x81\x01a\x83\x00": api.ErrFilter, "\xa9\x0b\x82\x01a\x83\x00\x84\x01\xff\x84\x01\xff": api.ErrFilter, "\xa9\x07\x82\x01a\x83\x00\x85\x00": api.ErrFilter, // doubled, or too many
		"\xa9\x07\x82\x01a\x83\x00\x84\x00": api.ErrFilter, "\xa9\x09\x82\x01a\x83\x00\x84\x02\xff\xff": api.ErrFilter, "\xa9\x08\x82\x01a\x83\x00\x01\x01\xff": api.ErrFilter, "\xa9\x07\x82\x01a\x83\x00\xa4\x00": api.ErrFilter, "\xa9\x05\x82\x01a\xa3\x00": api.ErrFilter, "\xa9\x05\x82\x01\xff\x83\x00": api.ErrFilter, "\xa9\x05\x81\x01\xff\x83\x00": api.ErrFilter, "\xa9\x05\x04\x01a\x04\x00": api.ErrFilter,
	} {
		if f, err := Decode(b); err != want || f != nil {
			t.Errorf("Decode(%x) = %s, %d, want %d", b, told(f), err, want)
		}
		if _, err := slowDecode(b); err != want {
			t.Errorf("the words tell %d of %x", err, b)
		}
	}
}

// samples are filters in which all forms of elements stand.
func samples() []api.Filter {
	return []api.Filter{
		list(op(1, api.And), op(2, api.Not), has(3, "a"), op(2, api.Or), eq(3, "cn", "x"), op(3, api.And)),
		list(sub(1, "cn", "a", []string{"b", "c"}, "d")),
		list(op(1, api.Not), sub(2, "cn", "", []string{"b"}, "")),
		list(ext(1, "cn", "r", "x", true)),
		list(op(1, api.Or), ext(2, "", "r", "", true), ext(2, "cn", "", "y", false)),
	}
}

// P12.4: one byte changed to every other, left out, put in.
func TestDecodeOfEveryByte(t *testing.T) {
	for _, f := range samples() {
		b, _ := slowEncode(f)
		for at := range len(b) {
			holdDecode(t, b[:at])
			holdDecode(t, b[:at]+b[at+1:])
			for c := range 256 {
				one := string([]byte{byte(c)})
				holdDecode(t, b[:at]+one+b[at+1:])
				holdDecode(t, b[:at]+one+b[at:])
			}
		}
		holdDecode(t, b+"\x00")
		holdDecode(t, b+b)
	}
}

// changed changes one element, or its place.
func changed(r *rand.Rand, elements []api.Node) []api.Node {
	out := slices.Clone(elements)
	i := r.Intn(len(out))
	switch r.Intn(9) {
	case 0:
		return slices.Delete(out, i, i+1)
	case 1:
		return slices.Insert(out, i, out[i])
	case 2:
		j := r.Intn(len(out))
		out[i], out[j] = out[j], out[i]
		out[i].Depth, out[j].Depth = out[j].Depth, out[i].Depth
	case 3:
		out[i].Tag = r.Intn(12)
	case 4:
		out[i].Class = api.Class(r.Intn(4))
	case 5:
		out[i].Made, out[i].Body = !out[i].Made, ""
	case 6:
		out[i].Body = pick(r, "", "\xff", "a", "\x00", "dn")
	case 7:
		out[i].Depth += r.Intn(3) - 1
	case 8:
		return slices.Insert(out, i+1, api.Node{Depth: out[i].Depth + r.Intn(2), Class: pick(r, api.Context, api.Universal), Tag: r.Intn(6), Body: pick(r, "", "a", "\xff")})
	}
	return out
}

// P12.4: elements in another order, doubled, missing, of another tag: all that can be written.
func TestDecodeAgainstWords(t *testing.T) {
	r := rand.New(rand.NewSource(124))
	taken := 0
	for range 12000 {
		f := someFilter(r)
		if r.Intn(3) == 0 {
			f = pick(r, samples()...)
		}
		b, _ := slowEncode(f)
		elements, _, _ := ber.Tree(b)
		for range 1 + r.Intn(2) {
			if len(elements) > 0 {
				elements = changed(r, elements)
			}
		}
		b, err, _ := ber.Write(elements)
		if err != api.OK {
			continue
		}
		holdDecode(t, b)
		if g, err := Decode(b); err == api.OK {
			taken++
			if again, err := Encode(g); err != api.OK || len(again) > len(b) {
				t.Errorf("Encode of Decode(%x) = %x, %d", b, again, err)
			}
		}
	}
	if taken < 300 {
		t.Errorf("only %d of the elements mean something", taken)
	}
}

// P12.4: random bytes.
func TestDecodeOfAnyBytes(t *testing.T) {
	r := rand.New(rand.NewSource(125))
	for range 5000 {
		holdDecode(t, someBytes(r, 12))
		holdDecode(t, string([]byte{byte(0xa0 + r.Intn(10)), 4})+someBytes(r, 4))
	}
}

// P12.5: Check's error stands ahead of the depth.
func TestEncodeOfNoFilter(t *testing.T) {
	for _, f := range []api.Filter{nil, {}, list(op(1, api.Not)), list(op(1, 10)), list(eq(1, "\xff", "")), list(ext(1, "", "", "x", true)), append(chain(api.Or, 63), eq(64, "a", "b"), op(2, -1))} {
		holdEncode(t, f, "", api.ErrFilter)
	}
	holdEncode(t, append(chain(api.And, 64), has(65, "a")), "", api.ErrDeep)
}

// P12.5: how deep each kind of node may stand; that deep, Decode reads it back.
func TestEncodeDeep(t *testing.T) {
	for _, x := range []struct {
		last    api.FilterNode
		deepest int
	}{
		{op(0, api.And), 64}, {op(0, api.Or), 64}, {has(0, "a"), 64}, {has(0, ""), 64},
		{eq(0, "a", "b"), 63}, {eq(0, "", ""), 63}, {with(0, api.AtLeast, "a", ""), 63}, {with(0, api.AtMost, "a", ""), 63}, {with(0, api.Approx, "a", ""), 63},
		{ext(0, "a", "", "", false), 63}, {ext(0, "", "r", "", true), 63},
		{sub(0, "a", "x", nil, ""), 62}, {sub(0, "a", "", []string{"x"}, ""), 62}, {sub(0, "a", "", nil, "x"), 62},
	} {
		for _, over := range []api.FilterOp{api.And, api.Or, api.Not} {
			for depth := 60; depth <= 64; depth++ {
				n := x.last
				n.Depth = depth
				f := append(chain(over, depth-1), n)
				want, err := slowEncode(f)
				if (err == api.OK) != (depth <= x.deepest) {
					t.Errorf("the words tell %d of %s", err, told(f))
				}
				holdEncode(t, f, want, err)
				if err != api.OK {
					continue
				}
				g, err := Decode(want)
				if err != api.OK {
					t.Errorf("Decode of %s: %d", told(f), err)
				}
				hold(t, "Decode", g, f)
			}
		}
	}
	// The one that is too deep stands among others.
	wide := append(list(op(1, api.And), has(2, "a")), append(chain(api.Or, 63)[1:], eq(64, "a", "b"), has(2, "b"))...)
	holdEncode(t, wide, "", api.ErrDeep)
}

// P12.4: elements nested too deep are refused by ber.
func TestDecodeDeep(t *testing.T) {
	b := "\x87\x00"
	for range 63 {
		b = element(api.Context, true, 2, b)
	}
	f, err := Decode(b)
	if err != api.OK {
		t.Errorf("64 deep: %d", err)
	}
	hold(t, "64 deep", f, append(chain(api.Not, 63), has(64, "")))
	if f, err := Decode(element(api.Context, true, 2, b)); err != api.ErrDepth || f != nil {
		t.Errorf("65 deep: %s, %d", told(f), err)
	}
}

// P12.4, P12.5: Decode of Encode is the filter, of long ones too; Encode writes the shortest form.
func TestElementThereAndBack(t *testing.T) {
	r := rand.New(rand.NewSource(126))
	for range 3000 {
		f := someFilter(r)
		for i := range f {
			if asks[f[i].Op] != "" && f[i].Op != api.Extensible && r.Intn(3) == 0 {
				f[i].Desc = pick(r, "", "no desc", "\xc3\xa9", strings.Repeat("d", 200))
			}
		}
		b, err := slowEncode(f)
		holdEncode(t, f, b, err)
		g, err := Decode(b)
		if err != api.OK {
			t.Errorf("Decode(%x): %d", b, err)
		}
		hold(t, "Decode", g, f)
		h := someList(r)
		b, err = slowEncode(h)
		holdEncode(t, h, b, err)
	}
	long := strings.Repeat("x", 70000)
	f := list(op(1, api.And), eq(2, long, long), sub(2, "a", long, []string{long[:127], long[:128], long[:255], long[:256]}, long))
	b, err := slowEncode(f)
	holdEncode(t, f, b, err)
	g, _ := Decode(b)
	hold(t, "Decode", g, f)
}
