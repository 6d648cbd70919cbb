package msg

import (
	"slices"

	"roster/api"
)

// answerTo is the kind of the reply that answers a kind of requests; false, if none does.
func answerTo(kind api.Kind) (api.ReplyKind, bool) {
	switch kind {
	case api.KindBind:
		return api.ReplyBind, true
	case api.KindSearch:
		return api.ReplyDone, true
	case api.KindModify:
		return api.ReplyModify, true
	case api.KindAdd:
		return api.ReplyAdd, true
	case api.KindDelete:
		return api.ReplyDelete, true
	case api.KindRename:
		return api.ReplyRename, true
	case api.KindCompare:
		return api.ReplyCompare, true
	case api.KindExtended:
		return api.ReplyExtended, true
	}
	return 0, false
}

// refusal is the result that a request has whatever the snapshot is; false, if the snapshot must be asked.
func refusal(r api.Request) (api.Result, bool) {
	if slices.ContainsFunc(r.Controls, critical) {
		return api.Result{Code: api.CriticalUnavailable, Text: "critical control"}, true
	}
	switch r.Kind {
	case api.KindBind:
		return bindResult(r.Bind), true
	case api.KindModify, api.KindAdd, api.KindDelete, api.KindRename:
		return api.Result{Code: api.Unwilling, Text: "read only"}, true
	case api.KindCompare:
		return api.Result{Code: api.Unwilling, Text: "no compare"}, true
	case api.KindExtended:
		return api.Result{Code: api.ProtocolError, Text: "no such operation"}, true
	}
	return api.Result{}, false
}

func critical(c api.Control) bool { return c.Critical }

func bindResult(b api.Bind) api.Result {
	switch {
	case b.Version != 3:
		return api.Result{Code: api.ProtocolError, Text: "version 3 only"}
	case b.Method != api.MethodSimple:
		return api.Result{Code: api.AuthMethodUnknown, Text: "simple only"}
	case b.Password != "":
		return api.Result{Code: api.InvalidCredentials, Text: "anonymous only"}
	case b.Name != "":
		return api.Result{Code: api.Unwilling, Text: "name without password"}
	}
	return api.Result{Code: api.Success}
}
