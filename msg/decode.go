package msg

import "roster/api"

func (r *reader) request() api.Request {
	id := r.take(integer).number(1, api.MaxID)
	kind := operationKind(r.first())
	q := whole(r.take(operationBytes[kind]), operationOf(kind).read)
	q.ID, q.Kind = id, kind
	q.Controls = r.controls()
	return q
}

func (r *reader) reply() api.Reply {
	id := r.take(integer).number(0, api.MaxID)
	kind := answerKind(r.first())
	if id < leastID(kind) {
		refuse()
	}
	p := whole(r.take(answerBytes[kind]), answerOf(kind).read)
	p.ID, p.Kind = id, kind
	p.Controls = r.controls()
	return p
}

func (r *reader) controls() []api.Control {
	if !r.stands(controlList) {
		return nil
	}
	return each(r.take(controlList), sequence, (*reader).control)
}

func (r *reader) control() api.Control {
	c := api.Control{OID: r.take(octets).utf()}
	if r.stands(boolean) {
		c.Critical = r.take(boolean).flag()
	}
	if r.stands(octets) {
		c.HasValue = true
		c.Value = r.take(octets).bytes()
	}
	return c
}

// The operations.

func (r *reader) bind() api.Request {
	var b api.Bind
	b.Version = r.take(integer).number(1, maxVersion)
	b.Name = r.take(octets).utf()
	if r.stands(simple) {
		b.Password = r.take(simple).bytes()
		return api.Request{Bind: b}
	}
	b.Method = api.MethodSASL
	in := r.take(sasl)
	b.Mechanism = in.take(octets).utf()
	if in.stands(octets) {
		b.HasCredentials = true
		b.Credentials = in.take(octets).bytes()
	}
	in.end()
	return api.Request{Bind: b}
}

func (r *reader) unbind() api.Request {
	return api.Request{}
}

func (r *reader) search() api.Request {
	var s api.Search
	s.Base = r.take(octets).utf()
	s.Scope = api.Scope(r.take(enumerated).number(0, maxScope))
	s.Deref = r.take(enumerated).number(0, maxDeref)
	s.SizeLimit = r.take(integer).number(0, api.MaxID)
	s.TimeLimit = r.take(integer).number(0, api.MaxID)
	s.TypesOnly = r.take(boolean).flag()
	s.Filter = r.filter()
	s.Attributes = each(r.take(sequence), octets, (*reader).utf)
	return api.Request{Search: s}
}

func (r *reader) modify() api.Request {
	var q api.Request
	q.Name = r.take(octets).utf()
	q.Changes = each(r.take(sequence), sequence, (*reader).change)
	return q
}

func (r *reader) change() api.Change {
	kind := r.take(enumerated).number(0, maxChange)
	a := whole(r.take(sequence), (*reader).attribute)
	return api.Change{Kind: kind, Desc: a.Desc, Values: a.Values}
}

func (r *reader) attribute() api.Attr {
	var a api.Attr
	a.Desc = r.take(octets).utf()
	a.Values = each(r.take(set), octets, (*reader).bytes)
	return a
}

func (r *reader) add() api.Request {
	var q api.Request
	q.Name = r.take(octets).utf()
	q.Attributes = each(r.take(sequence), sequence, (*reader).fresh)
	return q
}

// fresh is an attribute of an entry to be added: it has a value at least.
func (r *reader) fresh() api.Attr {
	a := r.attribute()
	if len(a.Values) == 0 {
		refuse()
	}
	return a
}

func (r *reader) deletion() api.Request {
	return api.Request{Name: r.utf()}
}

func (r *reader) rename() api.Request {
	var q api.Request
	q.Name = r.take(octets).utf()
	q.NewRDN = r.take(octets).utf()
	q.DeleteOld = r.take(boolean).flag()
	if r.stands(newSuperior) {
		q.HasNewSuperior = true
		q.NewSuperior = r.take(newSuperior).utf()
	}
	return q
}

func (r *reader) compare() api.Request {
	var q api.Request
	q.Name = r.take(octets).utf()
	in := r.take(sequence)
	q.Desc = in.take(octets).utf()
	q.Value = in.take(octets).bytes()
	in.end()
	return q
}

func (r *reader) abandon() api.Request {
	return api.Request{Abandon: r.number(0, api.MaxID)}
}

func (r *reader) extended() api.Request {
	q := api.Request{Name: r.take(wishedOID).utf()}
	if r.stands(wishedValue) {
		q.HasValue = true
		q.Value = r.take(wishedValue).bytes()
	}
	return q
}

// The answers.

func (r *reader) result() api.Reply {
	var x api.Result
	x.Code = api.Code(r.take(enumerated).number(0, maxCode))
	x.Matched = r.take(octets).utf()
	x.Text = r.take(octets).utf()
	return api.Reply{Result: x}
}

func (r *reader) entry() api.Reply {
	var p api.Reply
	p.Name = r.take(octets).utf()
	p.Attributes = each(r.take(sequence), sequence, (*reader).attribute)
	return p
}

func (r *reader) extendedAnswer() api.Reply {
	p := r.result()
	if r.stands(answeredOID) {
		p.HasOID = true
		p.OID = r.take(answeredOID).utf()
	}
	return p
}
