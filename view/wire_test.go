package view

import (
	"bytes"
	"fmt"
	"slices"
	"strings"
	"testing"
	"unicode/utf8"

	"roster/api"
	"roster/ber"
)

// Elements written a second time.

// elem is the tag byte, the length in its shortest form, and the contents one behind the other.
func elem(tag byte, contents ...string) string {
	body := strings.Join(contents, "")
	out := []byte{tag}
	switch n := len(body); {
	case n < 128:
		out = append(out, byte(n))
	case n < 256:
		out = append(out, 0x81, byte(n))
	case n < 1<<16:
		out = append(out, 0x82, byte(n>>8), byte(n))
	case n < 1<<24:
		out = append(out, 0x83, byte(n>>16), byte(n>>8), byte(n))
	default:
		out = append(out, 0x84, byte(n>>24), byte(n>>16), byte(n>>8), byte(n))
	}
	return string(out) + body
}

// longElem is the same with so many bytes of length behind the length byte; 0: the length byte alone.
func longElem(form int, tag byte, contents ...string) string {
	body := strings.Join(contents, "")
	if form == 0 {
		return string([]byte{tag, byte(len(body))}) + body
	}
	out := []byte{tag, 0x80 | byte(form)}
	for i := form - 1; i >= 0; i-- {
		out = append(out, byte(len(body)>>(8*i)))
	}
	return string(out) + body
}

const (
	seq  = 0x30
	oct  = 0x04
	num  = 0x02
	rule = 0x80
	back = 0x81
)

// slowEncodeKeys is P22.8.
func slowEncodeKeys(keys []api.SortKey) (string, api.Errno) {
	var all []string
	for _, k := range keys {
		if !utf8.ValidString(k.Desc) || !utf8.ValidString(k.Rule) {
			return "", 224
		}
		parts := []string{elem(oct, k.Desc)}
		if k.Rule != "" {
			parts = append(parts, elem(rule, k.Rule))
		}
		if k.Reverse {
			parts = append(parts, elem(back, "\xff"))
		}
		all = append(all, elem(seq, parts...))
	}
	return elem(seq, all...), 0
}

// inside is the elements in the one that a text is, if that one has this class and tag and is made.
func inside(value string, class api.Class, tag int) ([]api.Elem, bool) {
	whole, err, _ := ber.Split(value)
	if err != 0 || len(whole) != 1 || whole[0].Class != class || whole[0].Tag != tag || !whole[0].Made {
		return nil, false
	}
	elems, err, _ := ber.Split(whole[0].Body)
	return elems, err == 0
}

// slowDecodeKeys is P22.9, level by level: a key's elements are one of eight rows of tag bytes.
func slowDecodeKeys(value string) ([]api.SortKey, api.Errno) {
	elems, ok := inside(value, api.Universal, 16)
	if !ok {
		return nil, 224
	}
	var keys []api.SortKey
	for _, e := range elems {
		if e.Class != api.Universal || e.Tag != 16 || !e.Made {
			return nil, 224
		}
		fields, err, _ := ber.Split(e.Body)
		if err != 0 {
			return nil, 224
		}
		row := ""
		for _, f := range fields {
			row += fmt.Sprintf("%d.%d.%v ", f.Class, f.Tag, f.Made)
		}
		var k api.SortKey
		switch row {
		case "0.4.false 2.0.false 2.1.false ":
			k = api.SortKey{Desc: fields[0].Body, Rule: fields[1].Body, Reverse: fields[2].Body != "\x00"}
		case "0.4.false 2.1.false ":
			k = api.SortKey{Desc: fields[0].Body, Reverse: fields[1].Body != "\x00"}
		case "0.4.false 2.0.false ":
			k = api.SortKey{Desc: fields[0].Body, Rule: fields[1].Body}
		case "0.4.false ":
			k = api.SortKey{Desc: fields[0].Body}
		default:
			return nil, 224
		}
		last := fields[len(fields)-1]
		if strings.Contains(row, "2.1") && len(last.Body) != 1 || strings.Contains(row, "2.0") && k.Rule == "" || !utf8.ValidString(k.Desc) || !utf8.ValidString(k.Rule) {
			return nil, 224
		}
		keys = append(keys, k)
	}
	return keys, 0
}

// slowDecodePage is P22.10.
func slowDecodePage(value string) (int, string, api.Errno) {
	elems, ok := inside(value, api.Universal, 16)
	if !ok || len(elems) != 2 {
		return 0, "", 224
	}
	size, cookie := elems[0], elems[1]
	if size.Class != 0 || size.Tag != 2 || size.Made || cookie.Class != 0 || cookie.Tag != 4 || cookie.Made {
		return 0, "", 224
	}
	n, err := ber.Int(size.Body)
	if err != 0 || n < 0 || n > 2147483647 {
		return 0, "", 224
	}
	return int(n), cookie.Body, 0
}

func holdEncodeKeys(t *testing.T, keys []api.SortKey, want string, errno api.Errno) {
	t.Helper()
	if got, err := EncodeKeys(keys); got != want || err != errno {
		t.Fatalf("EncodeKeys(%+v) = %x, %d, want %x, %d", short(keys), cut(got), err, cut(want), errno)
	}
}

func holdDecodeKeys(t *testing.T, value string, want []api.SortKey, errno api.Errno) {
	t.Helper()
	if got, err := DecodeKeys(value); !slices.Equal(got, want) || err != errno {
		t.Fatalf("DecodeKeys(%x) = %+v, %d, want %+v, %d", cut(value), short(got), err, short(want), errno)
	}
}

func holdEncodePage(t *testing.T, size int, cookie, want string, errno api.Errno) {
	t.Helper()
	if got, err := EncodePage(size, cookie); got != want || err != errno {
		t.Fatalf("EncodePage(%d, %q) = %x, %d, want %x, %d", size, cut(cookie), cut(got), err, cut(want), errno)
	}
}

func holdDecodePage(t *testing.T, value string, size int, cookie string, errno api.Errno) {
	t.Helper()
	if n, c, err := DecodePage(value); n != size || c != cookie || err != errno {
		t.Fatalf("DecodePage(%x) = %d, %q, %d, want %d, %q, %d", cut(value), n, cut(c), err, size, cut(cookie), errno)
	}
}

// holdBoth holds both readers against what is told a second time.
func holdBoth(t *testing.T, value string) {
	t.Helper()
	keys, err := slowDecodeKeys(value)
	holdDecodeKeys(t, value, keys, err)
	size, cookie, err := slowDecodePage(value)
	holdDecodePage(t, value, size, cookie, err)
}

// short and cut keep what is told of long texts short.
func short(keys []api.SortKey) []api.SortKey {
	out := slices.Clone(keys[:min(len(keys), 9)])
	for i := range out {
		out[i].Desc, out[i].Rule = cut(out[i].Desc), cut(out[i].Rule)
	}
	return out
}

func cut(s string) string { return s[:min(len(s), 100)] }

// P22.8, P22.9, P22.10: the chapter's examples.
func TestWireExamples(t *testing.T) {
	two := "\x30\x19\x30\x04\x04\x02\x63\x6e\x30\x11\x04\x02\x73\x6e\x80\x08\x32\x2e\x35\x2e\x31\x33\x2e\x33\x81\x01\xff"
	keys := []api.SortKey{{Desc: "cn"}, {Desc: "sn", Rule: "2.5.13.3", Reverse: true}}
	holdEncodeKeys(t, keys, two, api.OK)
	holdDecodeKeys(t, two, keys, api.OK)
	holdEncodeKeys(t, nil, "\x30\x00", api.OK)
	holdEncodeKeys(t, []api.SortKey{}, "\x30\x00", api.OK)
	holdDecodeKeys(t, "\x30\x00", nil, api.OK)
	holdEncodePage(t, 100, "", "\x30\x05\x02\x01\x64\x04\x00", api.OK)
	holdDecodePage(t, "\x30\x05\x02\x01\x64\x04\x00", 100, "", api.OK)
	holdEncodePage(t, -1, "", "", api.ErrView)
	holdDecodePage(t, "\x30\x05\x02\x01\xff\x04\x00", 0, "", api.ErrView)
	holdDecodeKeys(t, "\x30\x04\x30\x02\x04\x00", []api.SortKey{{}}, api.OK)
}

// descs are texts of all lengths of UTF-8 sequences, and such as are no description.
func descs() []string {
	return []string{"", "cn", "c n", "cn;lang-de", "\x00", "\xc3\xa9", "\xe2\x82\xac", "\xf0\x9f\x98\x80", strings.Repeat("a", 127), strings.Repeat("a", 128), strings.Repeat("\xc3\xa9", 128), strings.Repeat("a", 70000)}
}

// P22.8, P22.9: keys of each form, alone and beside each other, there and back; whether they can be used is not asked.
func TestKeysThereAndBack(t *testing.T) {
	var all []api.SortKey
	for _, desc := range descs() {
		for _, r := range append(descs(), "2.5.13.3", "caseIgnoreOrderingMatch", "nope") {
			for _, reverse := range []bool{false, true} {
				k := api.SortKey{Desc: desc, Rule: r, Reverse: reverse}
				all = append(all, k)
				for _, keys := range [][]api.SortKey{{k}, {k, k}, {{Desc: "cn"}, k}, {k, {Desc: "sn", Rule: "x", Reverse: true}}} {
					want, err := slowEncodeKeys(keys)
					holdEncodeKeys(t, keys, want, err)
					holdDecodeKeys(t, want, keys, api.OK)
				}
			}
		}
	}
	want, err := slowEncodeKeys(all)
	holdEncodeKeys(t, all, want, err)
	holdDecodeKeys(t, want, all, api.OK)
	for _, many := range []int{1, 8, 9, 31, 32, 63, 64, 100, 20000} {
		keys := slices.Repeat(by("cn"), many)
		want, _ := slowEncodeKeys(keys)
		holdEncodeKeys(t, keys, want, api.OK)
		holdDecodeKeys(t, want, keys, api.OK)
	}
}

// P22.8, P22.10: lengths at the ends of their forms are written in the shortest: the innermost element's, and those of the ones about it.
func TestShortestLengths(t *testing.T) {
	for _, end := range []int{127, 128, 255, 256, 65535, 65536} {
		for n := end - 20; n < end+3; n++ {
			long := strings.Repeat("a", n)
			for _, keys := range [][]api.SortKey{{{Desc: long}}, {{Rule: long, Reverse: true}}, {{Desc: long, Rule: "r"}, {}}} {
				want, _ := slowEncodeKeys(keys)
				holdEncodeKeys(t, keys, want, api.OK)
				holdDecodeKeys(t, want, keys, api.OK)
			}
			holdLongCookie(t, n)
		}
	}
	for _, n := range []int{1<<24 - 9, 1<<24 - 8, 1<<24 - 1, 1 << 24} {
		holdLongCookie(t, n)
	}
}

func holdLongCookie(t *testing.T, n int) {
	t.Helper()
	cookie := strings.Repeat("\xff", n)
	value := elem(seq, elem(num, "\x05"), elem(oct, cookie))
	holdEncodePage(t, 5, cookie, value, api.OK)
	holdDecodePage(t, value, 5, cookie, api.OK)
}

// noUTF8 are texts that are none.
func noUTF8() []string {
	return []string{"\xff", "\x80", "\xc3", "a\xc3", "\xc0\x80", "\xed\xa0\x80", "\xf4\x90\x80\x80", "\xe2\x82", "cn\xffsn", strings.Repeat("a", 200) + "\xfe"}
}

// P22.8, P22.9: a Desc or Rule that is no UTF-8, of any key, is neither written nor read.
func TestNoUTF8(t *testing.T) {
	for _, no := range noUTF8() {
		for _, bad := range []api.SortKey{{Desc: no}, {Desc: no, Rule: "x"}, {Desc: "cn", Rule: no}, {Rule: no, Reverse: true}, {Desc: no, Rule: no, Reverse: true}} {
			for _, keys := range [][]api.SortKey{{bad}, {{Desc: "cn"}, bad}, {bad, {Desc: "cn"}}, append(eight(), bad)} {
				holdEncodeKeys(t, keys, "", api.ErrView)
			}
			parts := []string{elem(oct, bad.Desc)}
			if bad.Rule != "" {
				parts = append(parts, elem(rule, bad.Rule))
			}
			key := elem(seq, parts...)
			holdDecodeKeys(t, elem(seq, key), nil, api.ErrView)
			holdDecodeKeys(t, elem(seq, key, elem(seq, elem(oct, "cn"))), nil, api.ErrView)
			holdDecodeKeys(t, elem(seq, elem(seq, elem(oct, "cn")), key), nil, api.ErrView)
		}
	}
}

// P22.9: lengths of every form, in each of the elements.
func TestKeysInEachLength(t *testing.T) {
	want := []api.SortKey{{Desc: "cn", Rule: "r", Reverse: true}, {Desc: "sn"}}
	for form := range 5 {
		l := func(at, which int, tag byte, contents ...string) string {
			if at == which {
				return longElem(form, tag, contents...)
			}
			return elem(tag, contents...)
		}
		for which := range 7 {
			value := l(0, which, seq, l(1, which, seq, l(2, which, oct, "cn"), l(3, which, rule, "r"), l(4, which, back, "\x01")), l(5, which, seq, l(6, which, oct, "sn")))
			holdDecodeKeys(t, value, want, api.OK)
			holdBoth(t, value)
		}
		all := longElem(form, seq, longElem(form, seq, longElem(form, oct, "cn"), longElem(form, rule, "r"), longElem(form, back, "\x01")), longElem(form, seq, longElem(form, oct, "sn")))
		holdDecodeKeys(t, all, want, api.OK)
		page := longElem(form, seq, longElem(form, num, "\x05"), longElem(form, oct, "ab"))
		holdDecodePage(t, page, 5, "ab", api.OK)
	}
	for _, value := range []string{"\x30\x80\x00\x00", "\x30\x85\x00\x00\x00\x00\x00", "\x30\x04\x30\x80\x00\x00", "\x30\x81", "\x30\x82\x00", "\x30\x06\x30\x04\x04\x82\x00\x00\x00"} {
		holdDecodeKeys(t, value, nil, api.ErrView)
		holdDecodePage(t, value, 0, "", api.ErrView)
	}
}

// P22.9: the boolean may be false, and true by any byte; nothing but one byte is one.
func TestReverseBytes(t *testing.T) {
	for b := range 256 {
		for _, r := range []string{"", "r"} {
			parts := []string{elem(oct, "cn")}
			if r != "" {
				parts = append(parts, elem(rule, r))
			}
			body := string([]byte{byte(b)})
			value := elem(seq, elem(seq, append(parts, elem(back, body))...))
			holdDecodeKeys(t, value, []api.SortKey{{Desc: "cn", Rule: r, Reverse: b != 0}}, api.OK)
			for _, no := range []string{"", body + body, "\x00" + body, body + "\x00\x00"} {
				value := elem(seq, elem(seq, append(slices.Clone(parts), elem(back, no))...))
				holdDecodeKeys(t, value, nil, api.ErrView)
			}
		}
	}
}

// P22.9: all rows of up to four elements of some in a key, told a second time; and the same rows as keys.
func TestEachRow(t *testing.T) {
	some := []string{elem(oct, "cn"), elem(oct), elem(rule, "r"), elem(rule), elem(back, "\xff"), elem(back, "\x00"), elem(back), elem(seq), elem(num, "\x01"), elem(0x82, "r"), elem(0x24, elem(oct, "cn")), elem(0xa0, "\x04\x00"), elem(0xa1), elem(0x40, "r"), elem(0xc1, "\xff"), elem(0x00, "r"), elem(0x01, "\xff")}
	var row []string
	taken := 0
	var go4 func(left int)
	go4 = func(left int) {
		value := elem(seq, elem(seq, row...))
		keys, err := slowDecodeKeys(value)
		holdDecodeKeys(t, value, keys, err)
		if err == api.OK {
			taken++
		}
		holdBoth(t, elem(seq, row...))
		holdBoth(t, elem(seq, elem(seq, elem(oct, "a")), elem(seq, row...)))
		if left == 0 {
			return
		}
		for _, e := range some {
			row = append(row, e)
			go4(left - 1)
			row = row[:len(row)-1]
		}
	}
	go4(3)
	// Two descriptions, with or without the rule, with or without one of the two booleans.
	if taken != 2*2*3 {
		t.Errorf("%d rows were taken", taken)
	}
}

// P22.9, P22.10: an element of each tag byte in place of each that must be there.
func TestEachTagByte(t *testing.T) {
	for b := range 256 {
		tag := byte(b)
		for _, value := range []string{
			elem(tag), elem(tag, elem(seq, elem(oct, "cn"))), elem(seq, elem(tag)), elem(seq, elem(tag, elem(oct, "cn"))), elem(seq, elem(seq, elem(tag, "cn"))), elem(seq, elem(seq, elem(tag))),
			elem(seq, elem(seq, elem(oct, "cn"), elem(tag, "\x04\x00"))), elem(seq, elem(seq, elem(oct, "cn"), elem(tag, "r"))), elem(seq, elem(seq, elem(oct, "cn"), elem(rule, "r"), elem(tag, "\x01"))), elem(seq, elem(seq, elem(oct, "cn"), elem(rule, "r"), elem(back, "\x01"), elem(tag, "\x01"))),
			elem(seq, elem(seq, elem(oct, "cn")), elem(tag)), elem(seq, elem(seq, elem(oct, "cn")), elem(tag, elem(oct, "sn"))),
			elem(tag, elem(num, "\x05"), elem(oct, "c")), elem(seq, elem(tag, "\x05"), elem(oct, "c")), elem(seq, elem(num, "\x05"), elem(tag, "c")), elem(seq, elem(num, "\x05"), elem(tag)), elem(seq, elem(tag), elem(oct)), elem(seq, elem(num, "\x05"), elem(oct, "c"), elem(tag)),
		} {
			holdBoth(t, value)
		}
		want := api.ErrView
		if tag == seq {
			want = api.OK
		}
		if _, err := DecodeKeys(elem(tag)); err != want {
			t.Errorf("DecodeKeys of the tag byte %x = %d", b, err)
		}
		if _, _, err := DecodePage(elem(tag, elem(num, "\x05"), elem(oct, "c"))); err != want {
			t.Errorf("DecodePage of the tag byte %x = %d", b, err)
		}
	}
}

// values are some that are taken.
func values() []string {
	return []string{
		elem(seq), elem(seq, elem(seq, elem(oct))), elem(seq, elem(seq, elem(oct, "cn"), elem(rule, "2.5.13.3"), elem(back, "\xff"))), elem(seq, elem(seq, elem(oct, "cn"), elem(back, "\xff")), elem(seq, elem(oct, "sn"), elem(rule, "r")), elem(seq, elem(oct))), elem(seq, elem(seq, elem(oct, strings.Repeat("\xc3\xa9", 70)))),
		elem(seq, elem(num, "\x00"), elem(oct)), elem(seq, elem(num, "\x05"), elem(oct, "12")), elem(seq, elem(num, "\x7f\xff\xff\xff"), elem(oct, "\xff\x00")), elem(seq, elem(num, "\x05"), elem(oct, strings.Repeat("\x80", 200))),
	}
}

// P22.9, P22.10: a byte more, a byte less, each byte changed, of values that are taken: told a second time; nothing that is cut or gone on with is taken.
func TestChangedBytes(t *testing.T) {
	for _, value := range values() {
		holdBoth(t, value)
		_, keysErr := DecodeKeys(value)
		_, _, pageErr := DecodePage(value)
		if keysErr != api.OK && pageErr != api.OK {
			t.Fatalf("%x is not taken", value)
		}
		for n := range len(value) {
			holdDecodeKeys(t, value[:n], nil, api.ErrView)
			holdDecodePage(t, value[:n], 0, "", api.ErrView)
			holdBoth(t, value[n:])
			for b := range 256 {
				changed := []byte(value)
				changed[n] = byte(b)
				holdBoth(t, string(changed))
				holdBoth(t, string(slices.Insert([]byte(value), n, byte(b))))
			}
			holdBoth(t, value[:n]+value[n+1:])
		}
		for b := range 256 {
			more := value + string([]byte{byte(b)})
			holdDecodeKeys(t, more, nil, api.ErrView)
			holdDecodePage(t, more, 0, "", api.ErrView)
		}
		holdDecodeKeys(t, value+value, nil, api.ErrView)
		holdDecodePage(t, value+value, 0, "", api.ErrView)
		wrapped := elem(seq, value)
		holdBoth(t, wrapped)
	}
	holdBoth(t, "")
}

// P22.10: sizes at the ends and beyond them, written in integers of each length.
func TestPageNumbers(t *testing.T) {
	for _, c := range []struct {
		size int
		body string
	}{
		{0, "\x00"}, {1, "\x01"}, {127, "\x7f"}, {128, "\x00\x80"}, {255, "\x00\xff"}, {256, "\x01\x00"}, {32767, "\x7f\xff"}, {32768, "\x00\x80\x00"}, {8388607, "\x7f\xff\xff"}, {8388608, "\x00\x80\x00\x00"}, {2147483646, "\x7f\xff\xff\xfe"}, {2147483647, "\x7f\xff\xff\xff"},
	} {
		for _, cookie := range []string{"", "0", "12", "x", "\x00", "\xff\xfe", "\xc3", strings.Repeat("9", 300)} {
			value := elem(seq, elem(num, c.body), elem(oct, cookie))
			holdEncodePage(t, c.size, cookie, value, api.OK)
			holdDecodePage(t, value, c.size, cookie, api.OK)
		}
	}
	for _, size := range []int{-1 << 63, -2147483648, -129, -128, -2, -1, 2147483648, 4294967295, 4294967296, 1 << 40, 1<<63 - 1} {
		holdEncodePage(t, size, "", "", api.ErrView)
		holdEncodePage(t, size, "1", "", api.ErrView)
		value := elem(seq, elem(num, ber.PutInt(int64(size))), elem(oct))
		holdDecodePage(t, value, 0, "", api.ErrView)
	}
	for _, body := range []string{"", "\xff", "\x80", "\x00\x00", "\x00\x7f", "\x00\x01", "\xff\xff", "\xff\x7f", "\x00\x00\x80", "\x00\x80\x00\x00\x00", "\x00\xff\xff\xff\xff", "\x01\x00\x00\x00\x00", "\x00\x00\x00\x00\x05", "\x7f\xff\xff\xff\xff\xff\xff\xff", "\x80\x00\x00\x00\x00\x00\x00\x00", "\x00\x80\x00\x00\x00\x00\x00\x00\x00", "\x01\x00\x00\x00\x00\x00\x00\x00\x05", strings.Repeat("\x00", 20), strings.Repeat("\x01", 100)} {
		for _, cookie := range []string{"", "1"} {
			holdDecodePage(t, elem(seq, elem(num, body), elem(oct, cookie)), 0, "", api.ErrView)
		}
	}
	for n := range 1 << 16 {
		body := string([]byte{byte(n >> 8), byte(n)})
		holdBoth(t, elem(seq, elem(num, body), elem(oct)))
	}
}

// P22.10: what is missing, too much, or in another order.
func TestPageForms(t *testing.T) {
	n, c := elem(num, "\x05"), elem(oct, "1")
	for _, value := range []string{
		"", "\x30", elem(seq), elem(seq, n), elem(seq, c), elem(seq, c, n), elem(seq, n, n), elem(seq, c, c), elem(seq, n, c, c), elem(seq, n, n, c), elem(seq, n, c, elem(0x05)), elem(seq, n, c) + "\x00", "\x00" + elem(seq, n, c), n + c, elem(0x31, n, c), elem(0x10, n, c), elem(seq, elem(seq, n, c)), elem(seq, elem(0x0a, "\x05"), c), elem(seq, elem(0x22, n), c), elem(seq, n, elem(0x24, c)), elem(seq, n, elem(0x0c, "1")), elem(seq, n, elem(0x80, "1")), elem(seq, elem(0x82, "\x05"), c),
	} {
		holdDecodePage(t, value, 0, "", api.ErrView)
	}
	holdDecodePage(t, elem(seq, n, c), 5, "1", api.OK)
}

// P22.9, P22.10: elements nested as deep as ber reads and deeper, where none may be.
func TestDeepValues(t *testing.T) {
	value := ""
	for range 70 {
		value = elem(seq, value)
		holdBoth(t, value)
		holdBoth(t, elem(seq, elem(seq, elem(oct, "cn"), value)))
		holdBoth(t, elem(seq, value, elem(oct)))
		holdBoth(t, elem(seq, elem(seq, elem(oct, "cn")), value))
	}
}

// What follows: what EncodeKeys and EncodePage write is read back, whatever it is; texts of any bytes are read as the chapter says.
func TestManyValues(t *testing.T) {
	m := newMaker(230)
	for range 3000 {
		var keys []api.SortKey
		for range m.Intn(5) {
			keys = append(keys, api.SortKey{Desc: m.someText(), Rule: m.someText(), Reverse: m.Intn(2) == 0})
		}
		value, err := EncodeKeys(keys)
		if want, wantErr := slowEncodeKeys(keys); value != want || err != wantErr {
			t.Fatalf("EncodeKeys(%+v) = %x, %d, want %x, %d", keys, value, err, want, wantErr)
		}
		if err == api.OK {
			holdDecodeKeys(t, value, keys, api.OK)
		}
		size, cookie := m.Intn(1<<31), m.someBytes(20)
		page, err := EncodePage(size, cookie)
		if err != api.OK {
			t.Fatalf("EncodePage(%d, %q) = %d", size, cookie, err)
		}
		holdDecodePage(t, page, size, cookie, api.OK)
		for range 5 {
			holdBoth(t, m.bent(value))
			holdBoth(t, m.bent(page))
		}
		holdBoth(t, m.someBytes(12))
		holdBoth(t, elem(seq, m.someBytes(6)))
		holdBoth(t, elem(seq, elem(seq, m.someBytes(6))))
	}
}

// someText is UTF-8 for the most part.
func (m *maker) someText() string {
	if m.Intn(12) == 0 {
		return m.someBytes(4)
	}
	return pick(m.Rand, []string{"", "", "cn", "sn;lang-de", "2.5.13.3", "\xc3\xa9", "\xf0\x9f\x98\x80x", " ", "\x00"})
}

// someBytes is a text of any bytes.
func (m *maker) someBytes(longest int) string {
	b := make([]byte, m.Intn(longest+1))
	m.Read(b)
	return string(b)
}

// bent is a text with some bytes changed.
func (m *maker) bent(value string) string {
	b := bytes.Clone([]byte(value))
	for range 1 + m.Intn(2) {
		if len(b) > 0 {
			b[m.Intn(len(b))] = pick(m.Rand, []byte{0, 1, 2, 3, 4, 0x30, 0x80, 0x81, 0xff, byte(m.Intn(256))})
		}
	}
	return string(b)
}
