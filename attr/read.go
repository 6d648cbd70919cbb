package attr

import "slices"

// The readers here take folded texts, of which every byte has the place that it has in the text as written.

// readDesc reads a description's text: its type, its options as they stand, and its end. If it is none, ok is false, and end is the place of the fault.
func readDesc(s string) (typ string, options []string, end int, ok bool) {
	end, ok = typeEnd(s)
	if !ok {
		return "", nil, end, false
	}
	typ = s[:end]
	for end < len(s) {
		if s[end] != ';' {
			return "", nil, end, false
		}
		begin := end + 1
		end = runEnd(s, begin, keyCharacter)
		if end == begin {
			return "", nil, end, false
		}
		options = append(options, s[begin:end])
	}
	return typ, options, end, true
}

// typeEnd tells how far a type's text, or the front of one, reaches in s, and whether it is a whole one up to there.
func typeEnd(s string) (end int, whole bool) {
	if s != "" && letter(s[0]) {
		return runEnd(s, 1, keyCharacter), true
	}
	return identifierEnd(s)
}

func identifierEnd(s string) (end int, whole bool) {
	for numbers := 1; ; numbers++ {
		begin := end
		end = numberEnd(s, begin)
		if end == begin {
			return end, false
		}
		if end == len(s) || s[end] != '.' {
			return end, numbers >= 2
		}
		end++
	}
}

// numberEnd tells where the number that begins at begin ends; begin, if none begins there.
func numberEnd(s string, begin int) int {
	if begin < len(s) && s[begin] == '0' {
		return begin + 1
	}
	return runEnd(s, begin, digit)
}

// runEnd tells where the bytes of one kind from begin on end.
func runEnd(s string, begin int, kind func(b byte) bool) int {
	end := begin
	for end < len(s) && kind(s[end]) {
		end++
	}
	return end
}

func letter(b byte) bool { return 'a' <= b && b <= 'z' }

func digit(b byte) bool { return '0' <= b && b <= '9' }

func keyCharacter(b byte) bool { return letter(b) || digit(b) || b == '-' }

// distinct is the options, each once, rising.
func distinct(options []string) []string {
	var out []string
	for option := range gather(options) {
		out = append(out, option)
	}
	slices.Sort(out)
	return out
}

// holdsAll tells whether each of the asked options is among those that are there.
func holdsAll(there, asked []string) bool {
	missing := gather(asked)
	for _, option := range there {
		delete(missing, option)
	}
	return len(missing) == 0
}

func gather(options []string) map[string]struct{} {
	set := make(map[string]struct{}, len(options))
	for _, option := range options {
		set[option] = struct{}{}
	}
	return set
}
