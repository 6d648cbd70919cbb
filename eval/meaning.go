package eval

import "roster/api"

// meaning is what a filter, or a node with all that it holds, is made into: a function that tells its value on an entry.
type meaning func(e api.Entry) api.Truth

// meaningOf takes any list: one that is no filter is Undefined on every entry.
func meaningOf(f api.Filter) meaning {
	t, err := Compile(f)
	if err != api.OK {
		return undefined
	}
	return t.On
}

// compiled makes a function of the first node with all that it holds, and tells what stands behind these in the list. It takes what filter.Check takes, so it goes no deeper than a filter may.
func compiled(f api.Filter) (meaning, api.Filter) {
	top, rest := f[0], f[1:]
	var kids []meaning
	for len(rest) > 0 && rest[0].Depth > top.Depth {
		var kid meaning
		kid, rest = compiled(rest)
		kids = append(kids, kid)
	}
	return node(top, kids), rest
}

func node(n api.FilterNode, kids []meaning) meaning {
	switch n.Op {
	case api.And:
		return joined(And, kids)
	case api.Or:
		return joined(Or, kids)
	case api.Not:
		return turned(kids[0])
	}
	return item(n)
}

// joined asks no further kid once one has decided: whatever the others are worth, the value stays what it is then.
func joined(join func(ts ...api.Truth) api.Truth, kids []meaning) meaning {
	ofNone := join()
	decided := Not(ofNone)
	return func(e api.Entry) api.Truth {
		value := ofNone
		for _, kid := range kids {
			value = join(value, kid(e))
			if value == decided {
				break
			}
		}
		return value
	}
}

func turned(kid meaning) meaning {
	return func(e api.Entry) api.Truth {
		return Not(kid(e))
	}
}

func undefined(api.Entry) api.Truth {
	return api.Undefined
}

// truth is the value of what is known.
func truth(holds bool) api.Truth {
	if holds {
		return api.True
	}
	return api.False
}

// counted is what a number counts as.
func counted(t api.Truth) api.Truth {
	if t < api.False || t > api.True {
		return api.Undefined
	}
	return t
}
