package change

import (
	"roster/api"
	"roster/attr"
)

func addRequest(c api.ChangeRecord) api.Request {
	return api.Request{Kind: api.KindAdd, Attributes: gather(c.Pairs)}
}

// gather makes one attribute of the values of each canonical description, in the order in which these first come.
func gather(pairs []api.Pair) []api.Attr {
	var attributes []api.Attr
	places := map[string]int{}
	for _, pair := range pairs {
		canonical, _, _ := attr.Canonical(pair.Desc)
		place, there := places[canonical]
		if !there {
			place = len(attributes)
			places[canonical] = place
			attributes = append(attributes, api.Attr{Desc: pair.Desc})
		}
		attributes[place].Values = append(attributes[place].Values, pair.Value)
	}
	return attributes
}

func deleteRequest(api.ChangeRecord) api.Request {
	return api.Request{Kind: api.KindDelete}
}

func modifyRequest(c api.ChangeRecord) api.Request {
	changes := copied(c.Changes)
	for place, change := range changes {
		changes[place].Values = copied(change.Values)
	}
	return api.Request{Kind: api.KindModify, Changes: changes}
}

func renameRequest(c api.ChangeRecord) api.Request {
	return api.Request{
		Kind:           api.KindRename,
		NewRDN:         c.NewRDN,
		DeleteOld:      c.DeleteOld,
		NewSuperior:    c.NewSuperior,
		HasNewSuperior: c.HasNewSuperior,
	}
}

// copied shares no memory with the list, not even where that is empty and has room.
func copied[E any](list []E) []E {
	return append([]E(nil), list...)
}
