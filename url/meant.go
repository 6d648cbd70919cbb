package url

import (
	"roster/api"
	"roster/attr"
	"roster/dn"
)

// nothing is the wish that asks for no attribute; it is a description's text too.
const nothing = "1.1"

func isWish(s string) bool {
	if s == "*" || s == "+" {
		return true
	}
	_, err, _ := attr.Parse(s)
	return err == api.OK
}

// wished is what a list of wishes asks for, whatever their order is and however they are written.
func wished(wishes []string) map[string]struct{} {
	set := make(map[string]struct{}, len(wishes))
	for _, wish := range wishes {
		set[canonical(wish)] = struct{}{}
	}
	switch len(set) {
	case 0:
		set["*"] = struct{}{}
	case 1: // nothing may stand alone
	default:
		delete(set, nothing)
	}
	return set
}

// canonical is one spelling of a wish; * and + have but one.
func canonical(wish string) string {
	canon, err, _ := attr.Canonical(wish)
	if err != api.OK {
		return wish
	}
	return canon
}

func sameSet(a, b map[string]struct{}) bool {
	for wish := range a {
		if _, there := b[wish]; !there {
			return false
		}
	}
	return len(a) == len(b)
}

// sameName is asked of names that parse.
func sameName(a, b string) bool {
	aKey, _ := dn.KeyOf(a)
	bKey, _ := dn.KeyOf(b)
	return dn.Compare(aKey, bKey) == 0
}

// everything is the filter that each entry fulfils which has a class.
func everything() api.Filter {
	return api.Filter{{Depth: 1, Op: api.Present, Desc: "objectClass"}}
}

// copied is a filter that shares no memory with the other.
func copied(f api.Filter) api.Filter {
	out := append(api.Filter(nil), f...)
	for place, n := range out {
		out[place].Parts.Any = copiedTexts(n.Parts.Any)
	}
	return out
}

func copiedTexts(texts []string) []string {
	return append([]string(nil), texts...)
}
