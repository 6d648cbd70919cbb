package client

import (
	"strconv"

	"roster/api"
	"roster/text"
	"roster/url"
)

// command is a row of the table: how its arguments are read, and what request they make.
type command struct {
	word      string
	needed    int                               // how many of the arguments must be there
	arguments []argument                        // in their order
	request   func(given []meaning) api.Request // of a meaning for each of the arguments, the zero one where it isn't there
}

// argument is one that a command takes. A fault's place is one in what is written.
type argument struct {
	read func(written string) (meaning, fault)
}

// meaning is what an argument says: a text, a number or a search, as its command has it.
type meaning struct {
	there  bool
	text   string
	number int
	search api.Search
}

// commandOf finds a row by its word.
func commandOf(word string) (command, bool) {
	aText, aURL, aNumber, aTypes := argument{readText}, argument{readURL}, argument{readNumber}, argument{readTypes}
	rows := [...]command{
		{"bind", 0, []argument{aText, aText}, bindRequest},
		{"unbind", 0, nil, unbindRequest},
		{"search", 1, []argument{aURL, aNumber, aTypes}, searchRequest},
		{"modify", 1, []argument{aText}, modifyRequest},
		{"add", 3, []argument{aText, aText, aText}, addRequest},
		{"delete", 1, []argument{aText}, deleteRequest},
		{"rename", 2, []argument{aText, aText}, renameRequest},
		{"compare", 3, []argument{aText, aText, aText}, compareRequest},
		{"abandon", 1, []argument{aNumber}, abandonRequest},
		{"extended", 1, []argument{aText, aText}, extendedRequest},
	}
	for _, row := range rows {
		if row.word == word {
			return row, true
		}
	}
	return command{}, false
}

// How arguments are read.

func readText(written string) (meaning, fault) {
	meant, err, at := url.Unescape(written)
	return meaning{text: meant}, fault{err, at}
}

func readURL(written string) (meaning, fault) {
	u, err, at := url.Parse(written)
	if err != api.OK {
		return meaning{}, fault{err, at}
	}
	q, err := url.Search(u)
	return meaning{search: q}, fault{err, 0}
}

// readNumber takes a number only as it would be written: so none has a sign, or a 0 at its front.
func readNumber(written string) (meaning, fault) {
	n, err := strconv.Atoi(written)
	if err != nil || strconv.Itoa(n) != written || n < 0 || n > api.MaxID {
		return meaning{}, fault{api.ErrCommand, 0}
	}
	return meaning{number: n}, fault{}
}

func readTypes(written string) (meaning, fault) {
	if text.Fold(written) != "types" {
		return meaning{}, fault{api.ErrCommand, 0}
	}
	return meaning{}, fault{}
}

// What requests they make.

func bindRequest(given []meaning) api.Request {
	return api.Request{Kind: api.KindBind, Bind: api.Bind{Version: 3, Method: api.MethodSimple, Name: given[0].text, Password: given[1].text}}
}

func unbindRequest([]meaning) api.Request {
	return api.Request{Kind: api.KindUnbind}
}

func searchRequest(given []meaning) api.Request {
	q := given[0].search
	q.SizeLimit, q.TypesOnly = given[1].number, given[2].there
	return api.Request{Kind: api.KindSearch, Search: q}
}

func modifyRequest(given []meaning) api.Request {
	return api.Request{Kind: api.KindModify, Name: given[0].text}
}

func addRequest(given []meaning) api.Request {
	fresh := api.Attr{Desc: given[1].text, Values: []string{given[2].text}}
	return api.Request{Kind: api.KindAdd, Name: given[0].text, Attributes: []api.Attr{fresh}}
}

func deleteRequest(given []meaning) api.Request {
	return api.Request{Kind: api.KindDelete, Name: given[0].text}
}

func renameRequest(given []meaning) api.Request {
	return api.Request{Kind: api.KindRename, Name: given[0].text, NewRDN: given[1].text, DeleteOld: true}
}

func compareRequest(given []meaning) api.Request {
	return api.Request{Kind: api.KindCompare, Name: given[0].text, Desc: given[1].text, Value: given[2].text}
}

func abandonRequest(given []meaning) api.Request {
	return api.Request{Kind: api.KindAbandon, Abandon: given[0].number}
}

func extendedRequest(given []meaning) api.Request {
	return api.Request{Kind: api.KindExtended, Name: given[0].text, Value: given[1].text, HasValue: given[1].there}
}
