package entry

import (
	"roster/api"
	"roster/dn"
	"roster/text"
)

// readName answers a name's key, and the pairs that its own part asks of an entry.
func readName(name string) ([]string, []api.Pair, bool) {
	d, err := dn.Parse(name)
	if err != nil {
		return nil, nil, false
	}
	key, err := dn.Key(d)
	if err != nil {
		return nil, nil, false
	}
	return key, ownPairs(d), true
}

// ownPairs leaves out the type dn: in a snapshot such a line would be a record's name.
func ownPairs(d api.DN) []api.Pair {
	var pairs []api.Pair
	if len(d) == 0 {
		return pairs
	}
	for _, own := range d[0] {
		if text.Fold(own.Type) != "dn" {
			pairs = append(pairs, api.Pair{Desc: own.Type, Value: own.Value})
		}
	}
	return pairs
}
