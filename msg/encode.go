package msg

import (
	"strings"

	"roster/api"
	"roster/ber"
	"roster/filter"
)

func requestText(r api.Request) string {
	if !emptyRequest(withoutOwn(r)) {
		refuse()
	}
	id := element(integer, number(r.ID, 1, api.MaxID))
	content := operationOf(r.Kind).write(r)
	out := element(sequence, id+element(operationBytes[r.Kind], content)+controls(r.Controls))
	// A filter that can be written by itself may be too deep here.
	if _, err, _ := ber.Tree(out); err != api.OK {
		refuse()
	}
	return out
}

func replyText(r api.Reply) string {
	if !emptyReply(withoutOwnOfReply(r)) {
		refuse()
	}
	id := element(integer, number(r.ID, leastID(r.Kind), api.MaxID))
	content := answerOf(r.Kind).write(r)
	return element(sequence, id+element(answerBytes[r.Kind], content)+controls(r.Controls))
}

// The parts of all messages.

func element(first byte, content string) string {
	out, err := ber.Join(api.Elem{
		Class: api.Class(first >> classShift),
		Made:  first&madeBit != 0,
		Tag:   int(first & tagMask),
		Body:  content,
	})
	if err != api.OK {
		refuse()
	}
	return out
}

// optional is an element that may be missing.
func optional(there bool, first byte, content string) string {
	if !there {
		return ""
	}
	return element(first, content)
}

// number is the content of an integer within these bounds.
func number(n, least, most int) string {
	if n < least || n > most {
		refuse()
	}
	return ber.PutInt(int64(n))
}

// joined writes the members of a list, one behind the other.
func joined[T any](list []T, write func(T) string) string {
	var out strings.Builder
	for _, member := range list {
		out.WriteString(write(member))
	}
	return out.String()
}

func bytesElement(s string) string { return element(octets, s) }

func utfElement(s string) string { return element(octets, utf(s)) }

func controls(list []api.Control) string {
	return optional(len(list) > 0, controlList, joined(list, control))
}

func control(c api.Control) string {
	if !c.HasValue && c.Value != "" {
		refuse()
	}
	return element(sequence, utfElement(c.OID)+
		optional(c.Critical, boolean, ber.PutBool(true))+
		optional(c.HasValue, octets, c.Value))
}

// The contents of the operations.

func bindContent(r api.Request) string {
	b := r.Bind
	out := element(integer, number(b.Version, 1, maxVersion)) + utfElement(b.Name)
	if b.Method == api.MethodSimple {
		return out + element(simple, b.Password)
	}
	return out + element(sasl, utfElement(b.Mechanism)+optional(b.HasCredentials, octets, b.Credentials))
}

func unbindContent(api.Request) string {
	return ""
}

func searchContent(r api.Request) string {
	s := r.Search
	f, err := filter.Encode(s.Filter)
	if err != api.OK {
		refuse()
	}
	return utfElement(s.Base) +
		element(enumerated, number(int(s.Scope), 0, maxScope)) +
		element(enumerated, number(s.Deref, 0, maxDeref)) +
		element(integer, number(s.SizeLimit, 0, api.MaxID)) +
		element(integer, number(s.TimeLimit, 0, api.MaxID)) +
		element(boolean, ber.PutBool(s.TypesOnly)) +
		f +
		element(sequence, joined(s.Attributes, utfElement))
}

func modifyContent(r api.Request) string {
	return utfElement(r.Name) + element(sequence, joined(r.Changes, change))
}

func change(c api.Change) string {
	kind := element(enumerated, number(c.Kind, 0, maxChange))
	return element(sequence, kind+given(api.Attr{Desc: c.Desc, Values: c.Values}))
}

// given is an attribute with any number of values.
func given(a api.Attr) string {
	if a.Canon != "" {
		refuse()
	}
	return element(sequence, utfElement(a.Desc)+element(set, joined(a.Values, bytesElement)))
}

func addContent(r api.Request) string {
	return utfElement(r.Name) + element(sequence, joined(r.Attributes, fresh))
}

// fresh is an attribute of an entry to be added: it has a value at least.
func fresh(a api.Attr) string {
	if len(a.Values) == 0 {
		refuse()
	}
	return given(a)
}

func deletionContent(r api.Request) string {
	return utf(r.Name)
}

func renameContent(r api.Request) string {
	return utfElement(r.Name) +
		utfElement(r.NewRDN) +
		element(boolean, ber.PutBool(r.DeleteOld)) +
		optional(r.HasNewSuperior, newSuperior, utf(r.NewSuperior))
}

func compareContent(r api.Request) string {
	return utfElement(r.Name) + element(sequence, utfElement(r.Desc)+bytesElement(r.Value))
}

func abandonContent(r api.Request) string {
	return number(r.Abandon, 0, api.MaxID)
}

func extendedContent(r api.Request) string {
	return element(wishedOID, utf(r.Name)) + optional(r.HasValue, wishedValue, r.Value)
}

// The contents of the answers.

func resultContent(r api.Reply) string {
	x := r.Result
	return element(enumerated, number(int(x.Code), 0, maxCode)) + utfElement(x.Matched) + utfElement(x.Text)
}

func entryContent(r api.Reply) string {
	return utfElement(r.Name) + element(sequence, joined(r.Attributes, given))
}

func extendedAnswerContent(r api.Reply) string {
	return resultContent(r) + optional(r.HasOID, answeredOID, utf(r.OID))
}
