package entry

import (
	"roster/api"
	"roster/attr"
)

// wish turns the texts of a search into a question that is asked of each attribute's canonical form.
func wish(wanted []string) func(canon string) bool {
	users, own := len(wanted) == 0, false
	descs := map[string]struct{}{}
	for _, text := range wanted {
		switch text {
		case "*":
			users = true
		case "+":
			own = true
		case "1.1": // a description too, but one that asks for nothing
		default:
			if canon, err, _ := attr.Canonical(text); err == api.OK {
				descs[canon] = struct{}{}
			}
		}
	}
	return func(canon string) bool {
		asked := users
		if users != own && isOwn(canon) {
			asked = own
		}
		return asked || coversOne(descs, canon)
	}
}

// coversOne may go through the map in any order: one that covers is enough.
func coversOne(descs map[string]struct{}, canon string) bool {
	for desc := range descs {
		if attr.Covers(desc, canon) {
			return true
		}
	}
	return false
}

// isOwn tells whether an attribute is the directory's own. Where there is no description or no row, the zero row is the users'.
func isOwn(canon string) bool {
	d, _, _ := attr.Parse(canon)
	row, _ := attr.Find(d.Type)
	return row.Usage == api.Operational
}
