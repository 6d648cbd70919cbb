package view

import (
	"roster/api"
	"roster/ber"
	"roster/text"
)

// The tags of what a sort key may have behind its description.
const (
	tagRule = iota
	tagReverse
)

// EncodeKeys writes sort keys as a control's value; DecodeKeys reads them.
func EncodeKeys(keys []api.SortKey) (string, api.Errno) {
	nodes := []api.Node{sequence(1)}
	for _, key := range keys {
		if !isUTF8(key.Desc) || !isUTF8(key.Rule) {
			return "", api.ErrView
		}
		nodes = append(nodes, sequence(2), filled(octets(3), key.Desc))
		if key.Rule != "" {
			nodes = append(nodes, filled(tagged(tagRule), key.Rule))
		}
		if key.Reverse {
			nodes = append(nodes, filled(tagged(tagReverse), ber.PutBool(true)))
		}
	}
	return written(nodes)
}

func DecodeKeys(value string) ([]api.SortKey, api.Errno) {
	r := readerOf(value)
	if _, ok := r.take(sequence(1)); !ok {
		return nil, api.ErrView
	}
	var keys []api.SortKey
	for !r.atEnd() {
		key, ok := r.key()
		if !ok {
			return nil, api.ErrView
		}
		keys = append(keys, key)
	}
	return keys, api.OK
}

// EncodePage writes a page's size and cookie as a control's value; DecodePage reads them.
func EncodePage(size int, cookie string) (string, api.Errno) {
	if size < 0 || size > api.MaxID {
		return "", api.ErrView
	}
	return written([]api.Node{sequence(1), filled(integer(2), ber.PutInt(int64(size))), filled(octets(2), cookie)})
}

func DecodePage(value string) (int, string, api.Errno) {
	r := readerOf(value)
	_, begins := r.take(sequence(1))
	number, sized := r.take(integer(2))
	cookie, named := r.take(octets(2))
	size, err := ber.Int(number)
	if !begins || !sized || !named || !r.atEnd() || err != api.OK || size < 0 || size > api.MaxID {
		return 0, "", api.ErrView
	}
	return int(size), cookie, api.OK
}

// The forms of the nodes that stand in these values, without a content.

func sequence(depth int) api.Node {
	return api.Node{Depth: depth, Class: api.Universal, Made: true, Tag: api.TagSequence}
}

func octets(depth int) api.Node {
	return api.Node{Depth: depth, Class: api.Universal, Tag: api.TagOctets}
}

func integer(depth int) api.Node {
	return api.Node{Depth: depth, Class: api.Universal, Tag: api.TagInteger}
}

func tagged(tag int) api.Node {
	return api.Node{Depth: 3, Class: api.Context, Tag: tag}
}

func filled(form api.Node, body string) api.Node {
	form.Body = body
	return form
}

func written(nodes []api.Node) (string, api.Errno) {
	value, err, _ := ber.Write(nodes)
	if err != api.OK {
		return "", api.ErrView
	}
	return value, api.OK
}

func isUTF8(s string) bool {
	err, _ := text.Check(s)
	return err == api.OK
}

// reader takes a value's nodes one by one.
type reader struct {
	rest []api.Node
}

// readerOf reads a value. What is no element has no node, so nothing can be taken of it.
func readerOf(value string) *reader {
	nodes, _, _ := ber.Tree(value)
	return &reader{nodes}
}

func (r *reader) atEnd() bool { return len(r.rest) == 0 }

// take takes the next node, if it is of this form, and tells its content.
func (r *reader) take(form api.Node) (string, bool) {
	if r.atEnd() {
		return "", false
	}
	next := r.rest[0]
	if next != filled(form, next.Body) {
		return "", false
	}
	r.rest = r.rest[1:]
	return next.Body, true
}

// key takes the nodes of one sort key; false, if they are none.
func (r *reader) key() (api.SortKey, bool) {
	_, begins := r.take(sequence(2))
	desc, described := r.take(octets(3))
	rule, ruled := r.take(tagged(tagRule))
	reverse, sound := r.reverse()
	ok := begins && described && sound && ruled == (rule != "") && isUTF8(desc) && isUTF8(rule)
	return api.SortKey{Desc: desc, Rule: rule, Reverse: reverse}, ok
}

// reverse tells whether a sort key is turned about, by the node that says so, if there is one; and whether that is sound.
func (r *reader) reverse() (bool, bool) {
	body, there := r.take(tagged(tagReverse))
	if !there {
		return false, true
	}
	reverse, err := ber.Bool(body)
	return reverse, err == api.OK
}
