package url

import (
	"strings"

	"roster/api"
	"roster/text"
)

const scheme = "ldap://"

// fault is why a text is refused, and at which place; the zero fault: it isn't.
type fault struct {
	err api.Errno
	at  int
}

// behind is the fault in a text that has so many bytes more ahead.
func (f fault) behind(bytes int) fault {
	if f.err == api.OK {
		return fault{}
	}
	return fault{f.err, f.at + bytes}
}

// read is the URL that a text means; with a fault what was read of it till then.
func read(s string) (api.URL, fault) {
	var u api.URL
	if len(s) < len(scheme) || text.Fold(s[:len(scheme)]) != scheme {
		return u, fault{api.ErrScheme, 0}
	}
	server, rest, _ := strings.Cut(s[len(scheme):], "/")
	if f := readServer(&u, server); f.err != api.OK {
		return u, f.behind(len(scheme))
	}
	f := readPieces(&u, rest)
	return u, f.behind(len(scheme) + len(server) + len("/"))
}

// readPieces reads what stands behind the host's part. A piece without a byte leaves all that it would say at its zero value.
func readPieces(u *api.URL, rest string) fault {
	rows := pieces()
	return inTurn(strings.SplitN(rest, "?", len(rows)), func(number int, cut string) fault {
		if cut == "" {
			return fault{}
		}
		return rows[number].read(u, cut)
	})
}

// inTurn reads what a text was cut into at single bytes, up to the first fault.
func inTurn(cuts []string, read func(number int, cut string) fault) fault {
	begin := 0
	for number, cut := range cuts {
		if f := read(number, cut); f.err != api.OK {
			return f.behind(begin)
		}
		begin += len(cut) + 1
	}
	return fault{}
}

func unescaped(s string) (string, fault) {
	meant, err, at := Unescape(s)
	return meant, fault{err, at}
}
