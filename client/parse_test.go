package client

import (
	"fmt"
	"strings"
	"testing"

	"roster/api"
	"roster/filter"
)

func parsedFilter(s string) api.Filter {
	f, err, _ := filter.Parse(s)
	if err != api.OK {
		panic(s)
	}
	return f
}

func binding(name, password string) api.Request {
	return api.Request{Kind: api.KindBind, Bind: api.Bind{Version: 3, Name: name, Password: password}}
}

func named(kind api.Kind, name string) api.Request { return api.Request{Kind: kind, Name: name} }

func searching(q api.Search) api.Request {
	if q.Filter == nil {
		q.Filter = parsedFilter("(objectClass=*)")
	}
	return api.Request{Kind: api.KindSearch, Search: q}
}

// P19.1: the chapter's examples.
func TestParseExamples(t *testing.T) {
	holdParsed(t, "  BIND ", binding("", ""))
	holdParsed(t, "delete cn=a%20b,dc=x", named(api.KindDelete, "cn=a b,dc=x"))
	holdRefused(t, "", api.ErrNothing, 0)
	holdRefused(t, " # x", api.ErrNothing, 0)
	holdRefused(t, " fly", api.ErrCommand, 1)
	holdRefused(t, "delete", api.ErrCommand, 6)
	holdRefused(t, "unbind x", api.ErrCommand, 7)
	holdRefused(t, "delete a%2", api.ErrPercent, 8)
	holdRefused(t, "abandon 007", api.ErrCommand, 8)
}

// P19.1: each word with each number of arguments that it takes.
func TestParseCommands(t *testing.T) {
	holdParsed(t, "bind", binding("", ""))
	holdParsed(t, "bind n", binding("n", ""))
	holdParsed(t, "bind n p", binding("n", "p"))
	holdParsed(t, "unbind", api.Request{Kind: api.KindUnbind})
	holdParsed(t, "search ldap:///o=x", searching(api.Search{Base: "o=x"}))
	holdParsed(t, "search ldap:///o=x 7", searching(api.Search{Base: "o=x", SizeLimit: 7}))
	holdParsed(t, "search ldap:///o=x 7 types", searching(api.Search{Base: "o=x", SizeLimit: 7, TypesOnly: true}))
	holdParsed(t, "search ldap:///o=x 0 types", searching(api.Search{Base: "o=x", TypesOnly: true}))
	holdParsed(t, "modify n", named(api.KindModify, "n"))
	holdParsed(t, "add n d v", api.Request{Kind: api.KindAdd, Name: "n", Attributes: []api.Attr{{Desc: "d", Values: []string{"v"}}}})
	holdParsed(t, "delete n", named(api.KindDelete, "n"))
	holdParsed(t, "rename n p", api.Request{Kind: api.KindRename, Name: "n", NewRDN: "p", DeleteOld: true})
	holdParsed(t, "compare n d v", api.Request{Kind: api.KindCompare, Name: "n", Desc: "d", Value: "v"})
	holdParsed(t, "abandon 5", api.Request{Kind: api.KindAbandon, Abandon: 5})
	holdParsed(t, "extended n", named(api.KindExtended, "n"))
	holdParsed(t, "extended n v", api.Request{Kind: api.KindExtended, Name: "n", Value: "v", HasValue: true})
}

// P19.1: what a search's URL says.
func TestParseSearch(t *testing.T) {
	holdParsed(t, "search ldap://", searching(api.Search{}))
	holdParsed(t, "Search LDAP://h:389/O=X%20Y,c=z?CN,*,%2b?SUB?(sn=a%20*b*) 2147483647 Types",
		searching(api.Search{Base: "O=X Y,c=z", Scope: 2, SizeLimit: 2147483647, TypesOnly: true, Filter: parsedFilter("(sn=a *b*)"), Attributes: []string{"CN", "*", "+"}}))
	holdParsed(t, "search ldap:///??one?(&(a=\\20)(!(b>=c)))?x=y,z", searching(api.Search{Scope: 1, Filter: parsedFilter("(&(a=\\20)(!(b>=c)))")}))
}

// P19.1, 1: blank lines and comments; each of the blanks.
func TestParseNothing(t *testing.T) {
	for _, b := range []string{"\t", "\n", "\v", "\f", "\r", " "} {
		for _, line := range []string{b, b + b, b + " ", " " + b + "\t", "#", "# ", "#bind", b + "#", b + b + "# delete", b + "##", "#" + b, b + "#\xff"} {
			holdRefused(t, line, api.ErrNothing, 0)
		}
	}
	holdRefused(t, "\t\n\v\f\r \r\f\v\n\t", api.ErrNothing, 0)
	holdRefused(t, "\t\n\v\f\r #", api.ErrNothing, 0)
	for b := range 256 {
		switch s := string([]byte{byte(b)}); {
		case b == ' ', b >= 9 && b <= 13, b == '#':
			holdRefused(t, s, api.ErrNothing, 0)
			holdRefused(t, " "+s+"  ", api.ErrNothing, 0)
		default: // every other byte begins a field
			holdRefused(t, s, api.ErrCommand, 0)
			holdRefused(t, " "+s, api.ErrCommand, 1)
			holdRefused(t, " "+s+"# bind", api.ErrCommand, 1)
		}
	}
}

// P19.1, 2: fields are parted by spaces alone; what is no word, and its place.
func TestParseFields(t *testing.T) {
	for _, line := range []string{"\tbind", "bind\t", "\nbind", "bind\n", "bind\r", "bind\tn", "bind\vn", "\xa0bind", "bind\x00", "unbind\t", "\u2003bind", "b\u0131nd", "\u212aind", "binds", "bin", "b", "bind#", "bind=", "%62ind", "bindunbind", "sea", "SEARC", "quit", "types", "0"} {
		holdRefused(t, line, api.ErrCommand, 0)
		holdRefused(t, "   "+line+" x  ", api.ErrCommand, 3)
	}
	holdRefused(t, " \t bind", api.ErrCommand, 1) // the tab is a field of its own
	holdRefused(t, "\t bind", api.ErrCommand, 0)
	holdParsed(t, "bind # #", binding("#", "#")) // a comment begins a line or nothing
}

// P19.1: the words in any case, and any number of spaces about the fields.
func TestParseCase(t *testing.T) {
	lines := []string{"bind n p", "unbind", "search ldap:///o=X 7 types", "modify N", "add n D v", "delete N", "rename n P", "compare N d V", "abandon 9", "extended n V"}
	for number, line := range lines {
		want, _, _ := slowParse(line)
		word, rest, _ := strings.Cut(line, " ")
		if word != words[number] || want.Kind != api.Kind(number) {
			t.Fatalf("%q is no line for %q", line, words[number])
		}
		for way := range 1 << len(word) {
			spelt := []byte(word)
			for i := range spelt {
				spelt[i] -= byte(way >> i & 1 * 32)
			}
			holdParsed(t, string(spelt)+" "+rest, want)
		}
		for spaces := 1; spaces < 4; spaces++ {
			space := strings.Repeat(" ", spaces)
			holdParsed(t, space+strings.ReplaceAll(line, " ", space), want)
			holdParsed(t, strings.ReplaceAll(line, " ", space)+space, want)
		}
	}
}

// P19.1, 3 and 4: one argument too few, told at the line's end; one too many, told at its place; more, told at the first of them.
func TestParseCounts(t *testing.T) {
	whole := map[string]string{"bind": "n p", "unbind": "", "search": "ldap:///o=x 7 types", "modify": "n", "add": "n d v", "delete": "n", "rename": "n p", "compare": "n d v", "abandon": "9", "extended": "n v"}
	least := map[string]int{"search": 1, "modify": 1, "add": 3, "delete": 1, "rename": 2, "compare": 3, "abandon": 1, "extended": 1}
	for _, word := range words {
		arguments := strings.Fields(whole[word])
		for count := range arguments {
			line := strings.Join(append([]string{word}, arguments[:count]...), " ")
			if count < least[word] {
				holdRefused(t, line, api.ErrCommand, len(line))
				holdRefused(t, "  "+line+"   ", api.ErrCommand, len(line)+5)
			} else if _, err, _ := Parse(line); err != api.OK {
				t.Errorf("Parse(%q): %d", line, err)
			}
		}
		full := strings.TrimSuffix(word+" "+whole[word], " ")
		if _, err, _ := Parse(full); err != api.OK {
			t.Errorf("Parse(%q): %d", full, err)
		}
		for _, more := range []string{"x", "x y", "%", "%zz x", "types", "\t", "\xff", "#", "# more"} {
			holdRefused(t, full+" "+more, api.ErrCommand, len(full)+1)
			holdRefused(t, " "+full+"  "+more+" ", api.ErrCommand, len(full)+3)
		}
	}
}

// P19.1, 3 ahead of 4, and of two faults the one of the argument that stands ahead.
func TestParseFirstFault(t *testing.T) {
	holdRefused(t, "fly %", api.ErrCommand, 0)
	holdRefused(t, "add %", api.ErrPercent, 4)
	holdRefused(t, "add n %2", api.ErrPercent, 6)
	holdRefused(t, "add n % %zz", api.ErrPercent, 6)
	holdRefused(t, "add %zz d % x", api.ErrPercent, 4)
	holdRefused(t, "compare n d a% x", api.ErrPercent, 13)
	holdRefused(t, "rename %", api.ErrPercent, 7)
	holdRefused(t, "rename a b% c", api.ErrPercent, 10)
	holdRefused(t, "rename a b c%", api.ErrCommand, 11)
	holdRefused(t, "bind n p% x", api.ErrPercent, 8)
	holdRefused(t, "bind n p x%", api.ErrCommand, 9)
	holdRefused(t, "extended % % %", api.ErrPercent, 9)
	holdRefused(t, "delete %41%4 x", api.ErrPercent, 10)
	holdRefused(t, "delete x %", api.ErrCommand, 9)
	holdRefused(t, "abandon x y", api.ErrCommand, 8)
	holdRefused(t, "search http:/// x y z", api.ErrScheme, 7)
	holdRefused(t, "search ldap:///????!x x y z", api.ErrExtension, 7)
	holdRefused(t, "search ldap:/// x y z", api.ErrCommand, 16)
	holdRefused(t, "search ldap:/// 1 y z", api.ErrCommand, 18)
	holdRefused(t, "search ldap:/// 1 types z", api.ErrCommand, 24)
	holdRefused(t, "search ldap:/// types", api.ErrCommand, 16) // the second is a number
}

// P19.1: escapes in every text argument, right and wrong, at the front, in the middle and at the end.
func TestParseEscapes(t *testing.T) {
	right := map[string]string{"%41": "A", "%20": " ", "%25": "%", "%2541": "%41", "a%20b": "a b", "%c3%A9": "\xc3\xa9", "%ff": "\xff", "%00x": "\x00x", "x%0a": "x\n", "!#$&'()*+,-./09:;<=>?@AZ[\\]^_`az{|}~": "!#$&'()*+,-./09:;<=>?@AZ[\\]^_`az{|}~"}
	wrong := map[string]int{"%": 0, "%4": 0, "%4g": 0, "%g4x": 0, "%%41": 0, "ab%": 2, "ab%4": 2, "ab%4xyz": 2, "a%41%": 4, "a%41%4%41": 4, "\x00": 0, "a\tb": 1, "\x7f": 0, "ab\xc3\xa9": 2, "ab\r": 2, "%41\n": 3}
	for _, word := range words {
		kinds := slowRows[word].kinds
		for n, kind := range kinds {
			if kind != 't' {
				continue
			}
			front := word + " " + strings.Repeat("x%20 ", n)
			back := strings.Repeat(" y", len(kinds)-n-1)
			for written, meant := range right {
				line := front + written + back
				r, err, at := Parse(line)
				if err != api.OK || at != 0 || !strings.Contains(told(r), fmt.Sprintf("%#v", meant)) {
					t.Errorf("Parse(%q) = %s, %d, %d", line, told(r), err, at)
				}
				holdSlow(t, line)
			}
			for written, place := range wrong {
				holdRefused(t, front+written+back, api.ErrPercent, len(front)+place)
				holdRefused(t, "  "+front+"  "+written+" "+back+" ", api.ErrPercent, len(front)+4+place)
			}
		}
	}
}

// P19.1: URLs, numbers and the word types are taken as they stand.
func TestParseAsTheyStand(t *testing.T) {
	holdRefused(t, "search ldap%3a///", api.ErrScheme, 7)
	holdRefused(t, "search ldap:/// %31", api.ErrCommand, 16)
	holdRefused(t, "search ldap:/// 1 %74ypes", api.ErrCommand, 18)
	holdRefused(t, "abandon %31", api.ErrCommand, 8)
	holdParsed(t, "search ldap:///o=%2541", searching(api.Search{Base: "o=%41"})) // unescaped once
}

// P19.1: URLs that are refused when they are read, with the place in the line; and those of which there is no search, with the field's place.
func TestParseURL(t *testing.T) {
	for _, x := range []struct {
		url   string
		err   api.Errno
		place int
	}{
		{"http://h/", api.ErrScheme, 0}, {"x", api.ErrScheme, 0}, {"ldap://h_/", api.ErrHost, 8}, {"ldap:///o=a%2", api.ErrPercent, 11}, {"ldap:///o=\t", api.ErrPercent, 10}, {"ldap:///o", api.ErrURLName, 8},
		{"ldap:///?cn,,sn", api.ErrURLDesc, 12}, {"ldap:///??two", api.ErrURLScope, 10}, {"ldap:///???cn=a", api.ErrURLFilter, 11}, {"ldap:///????!", api.ErrExtension, 12}, {"ldap:///????x=a?b", api.ErrPercent, 15},
		{"ldap:///????!x", api.ErrExtension, 0}, {"ldap:///o=x????y,!x=1", api.ErrExtension, 0},
	} {
		for _, back := range []string{"", " ", " 7", " 7 types", " x", " 7 types more"} {
			holdRefused(t, "search "+x.url+back, x.err, 7+x.place)
			holdRefused(t, "   SEARCH  "+x.url+back, x.err, 11+x.place)
		}
	}
}

// P19.1: numbers, of a search and of an abandon.
func TestParseNumbers(t *testing.T) {
	for written, number := range map[string]int{"0": 0, "1": 1, "9": 9, "10": 10, "999999999": 999999999, "1000000000": 1000000000, "2147483646": 2147483646, "2147483647": 2147483647} {
		holdParsed(t, "abandon "+written, api.Request{Kind: api.KindAbandon, Abandon: number})
		holdParsed(t, "search ldap:/// "+written, searching(api.Search{SizeLimit: number}))
		holdParsed(t, "search ldap:/// "+written+" types", searching(api.Search{SizeLimit: number, TypesOnly: true}))
	}
	for _, written := range []string{"2147483648", "2147483650", "3000000000", "9999999999", "4294967297", "10000000000", "18446744073709551617", "9223372036854775808", strings.Repeat("9", 400), "00", "01", "007", "0000000001",
		"-1", "-0", "+1", "+0", "1+", "1.", "1.0", "1e3", "1_0", "0x1", "1a", "a1", "a", "-", "1,", "\t1", "1\t", "\u0661", "%31", "\xff"} {
		holdRefused(t, "abandon "+written, api.ErrCommand, 8)
		holdRefused(t, "search ldap:/// "+written, api.ErrCommand, 16)
		holdRefused(t, "search ldap:///  "+written+" types", api.ErrCommand, 17)
	}
	holdRefused(t, "abandon ", api.ErrCommand, 8) // an empty one is none
	holdParsed(t, "search ldap:///  ", searching(api.Search{}))
}

// P19.1: the word types.
func TestParseTypes(t *testing.T) {
	for _, written := range []string{"types", "Types", "TYPES", "tYpEs", "typeS"} {
		holdParsed(t, "search ldap:/// 3 "+written, searching(api.Search{SizeLimit: 3, TypesOnly: true}))
	}
	for _, written := range []string{"type", "typess", "values", "true", "1", "t", "types\t", "\ttypes", "types,", "%74ypes", "\u0442ypes", "type\u017f", "types=1"} {
		holdRefused(t, "search ldap:/// 3 "+written, api.ErrCommand, 18)
	}
}

// P19.1: lines made by chance, most of them nearly right, and lines of any bytes.
func TestParseByChance(t *testing.T) {
	m := newMaker(190)
	taken := 0
	for range 30000 {
		line := m.line()
		if m.Intn(3) == 0 {
			line = m.damaged(line)
		}
		if m.Intn(20) == 0 {
			line = m.someBytes(12)
		}
		if _, err, _ := Parse(line); err == api.OK {
			taken++
		}
		holdSlow(t, line)
	}
	if taken < 10000 || taken > 25000 {
		t.Errorf("%d of the lines are taken", taken)
	}
}
