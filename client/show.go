package client

import (
	"strconv"
	"strings"

	"roster/api"
	"roster/text"
)

// replyWords are what the kinds of replies are called, by their numbers.
var replyWords = [...]string{
	api.ReplyBind:     "bind",
	api.ReplyEntry:    "entry",
	api.ReplyDone:     "done",
	api.ReplyModify:   "modify",
	api.ReplyAdd:      "add",
	api.ReplyDelete:   "delete",
	api.ReplyRename:   "rename",
	api.ReplyCompare:  "compare",
	api.ReplyExtended: "extended",
}

func showEntry(out *strings.Builder, r api.Reply) {
	showRemark(out, title(r))
	showValue(out, "dn", r.Name)
	for _, a := range r.Attributes {
		if len(a.Values) == 0 {
			showRemark(out, a.Desc)
		}
		for _, value := range a.Values {
			showValue(out, a.Desc, value)
		}
	}
	out.WriteByte('\n')
}

func showResult(out *strings.Builder, r api.Reply) {
	showRemark(out, title(r)+" "+strconv.Itoa(int(r.Result.Code)))
	if r.Result.Matched != "" {
		showValue(out, "matched", r.Result.Matched)
	}
	if r.Result.Text != "" {
		showValue(out, "text", r.Result.Text)
	}
	if r.HasOID {
		showValue(out, "oid", r.OID)
	}
	for _, control := range r.Controls {
		showValue(out, "control", control.OID)
	}
}

// title is a reply's id and what its kind is called.
func title(r api.Reply) string {
	word := "other"
	if 0 <= r.Kind && int(r.Kind) < len(replyWords) {
		word = replyWords[r.Kind]
	}
	return strconv.Itoa(r.ID) + " " + word
}

// showRemark writes a line that is a comment to whoever loads the text as a snapshot.
func showRemark(out *strings.Builder, remark string) {
	out.WriteString("# " + remark + "\n")
}

// showValue writes a line as a snapshot has it, whatever bytes the word is.
func showValue(out *strings.Builder, word, value string) {
	out.WriteString(word + ":")
	if !text.Plain(value) {
		out.WriteString(": " + text.Base64(value))
	} else if value != "" {
		out.WriteString(" " + value)
	}
	out.WriteByte('\n')
}
