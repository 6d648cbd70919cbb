package plan

import (
	"strings"

	"roster/api"
)

const digits = "0123456789abcdef"

// text is the text of the first step, with all that stands beneath it.
func text(steps []api.Step) string {
	var kids []string
	overKids(steps, func(kid []api.Step) bool {
		kids = append(kids, text(kid))
		return true
	})
	return told(steps[0], kids)
}

// told is the text of a step out of those of its kids.
func told(s api.Step, kids []string) string {
	has := shapes[s.Op]
	if !has.desc && !has.kids {
		return has.word
	}
	var members []string
	if has.desc {
		members = append(members, written(s.Desc))
	}
	if has.text {
		members = append(members, written(s.Text))
	}
	for _, gram := range s.Grams {
		members = append(members, written(gram))
	}
	members = append(members, kids...)
	return has.word + "(" + strings.Join(members, ",") + ")"
}

// written hides the bytes that have a meaning in a plan's text, so that two plans never have one text.
func written(s string) string {
	var out strings.Builder
	for place := range len(s) {
		b := s[place]
		if '!' <= b && b <= '~' && strings.IndexByte("(),\\", b) < 0 {
			out.WriteByte(b)
		} else {
			out.Write([]byte{'\\', digits[b>>4], digits[b&15]})
		}
	}
	return out.String()
}
