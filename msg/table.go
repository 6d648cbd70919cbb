package msg

import "roster/api"

// What a first byte is made of.
const (
	tagMask    = 0x1F
	madeBit    = 0x20
	classShift = 6
)

// The first bytes of the elements, but for those of the operations and answers themselves.
const (
	boolean     = 0x01
	integer     = 0x02
	octets      = 0x04
	enumerated  = 0x0A
	sequence    = 0x30
	set         = 0x31
	simple      = 0x80 // in a bind: the password
	sasl        = 0xA3 // in a bind: the mechanism and its credentials
	newSuperior = 0x80 // in a rename
	wishedOID   = 0x80 // in an extended operation
	wishedValue = 0x81 // in an extended operation
	answeredOID = 0x8A // in an extended answer
	controlList = 0xA0
)

// The greatest numbers that the grammar takes, but for api.MaxID; the least are 0, and 1 of a version.
const (
	maxVersion = 127
	maxScope   = int(api.WholeSubtree)
	maxDeref   = 3
	maxChange  = 2
	maxCode    = 127
)

// The first bytes of the operations and of the answers, by their kinds.
var (
	operationBytes = [...]byte{
		api.KindBind:     0x60,
		api.KindUnbind:   0x42,
		api.KindSearch:   0x63,
		api.KindModify:   0x66,
		api.KindAdd:      0x68,
		api.KindDelete:   0x4A,
		api.KindRename:   0x6C,
		api.KindCompare:  0x6E,
		api.KindAbandon:  0x50,
		api.KindExtended: 0x77,
	}
	answerBytes = [...]byte{
		api.ReplyBind:     0x61,
		api.ReplyEntry:    0x64,
		api.ReplyDone:     0x65,
		api.ReplyModify:   0x67,
		api.ReplyAdd:      0x69,
		api.ReplyDelete:   0x6B,
		api.ReplyRename:   0x6D,
		api.ReplyCompare:  0x6F,
		api.ReplyExtended: 0x78,
	}
)

// operation is how the content of a kind of requests is read and written; neither looks at the id, the kind or the controls.
type operation struct {
	read  func(*reader) api.Request
	write func(api.Request) string
}

// operationOf gives up, if the kind is none of the table.
func operationOf(kind api.Kind) operation {
	rows := [...]operation{
		api.KindBind:     {(*reader).bind, bindContent},
		api.KindUnbind:   {(*reader).unbind, unbindContent},
		api.KindSearch:   {(*reader).search, searchContent},
		api.KindModify:   {(*reader).modify, modifyContent},
		api.KindAdd:      {(*reader).add, addContent},
		api.KindDelete:   {(*reader).deletion, deletionContent},
		api.KindRename:   {(*reader).rename, renameContent},
		api.KindCompare:  {(*reader).compare, compareContent},
		api.KindAbandon:  {(*reader).abandon, abandonContent},
		api.KindExtended: {(*reader).extended, extendedContent},
	}
	if kind < 0 || int(kind) >= len(rows) {
		refuse()
	}
	return rows[kind]
}

// answer is the same of a kind of replies.
type answer struct {
	read  func(*reader) api.Reply
	write func(api.Reply) string
}

// answerOf gives up, if the kind is none of the table.
func answerOf(kind api.ReplyKind) answer {
	result := answer{(*reader).result, resultContent}
	rows := [...]answer{
		api.ReplyBind:     result,
		api.ReplyEntry:    {(*reader).entry, entryContent},
		api.ReplyDone:     result,
		api.ReplyModify:   result,
		api.ReplyAdd:      result,
		api.ReplyDelete:   result,
		api.ReplyRename:   result,
		api.ReplyCompare:  result,
		api.ReplyExtended: {(*reader).extendedAnswer, extendedAnswerContent},
	}
	if kind < 0 || int(kind) >= len(rows) {
		refuse()
	}
	return rows[kind]
}

// operationKind gives up, if no operation begins with this byte.
func operationKind(first byte) api.Kind {
	for kind, b := range operationBytes {
		if b == first {
			return api.Kind(kind)
		}
	}
	refuse()
	return 0
}

// answerKind gives up, if no answer begins with this byte.
func answerKind(first byte) api.ReplyKind {
	for kind, b := range answerBytes {
		if b == first {
			return api.ReplyKind(kind)
		}
	}
	refuse()
	return 0
}

// leastID is the least id of a reply: a notice answers no request, and is an extended answer.
func leastID(kind api.ReplyKind) int {
	if kind == api.ReplyExtended {
		return 0
	}
	return 1
}
