package msg

import "roster/api"

// withoutOwn is a request without the fields that its kind has: what is left in it no text means. A text whose Has.. is false is no field that it has.
func withoutOwn(r api.Request) api.Request {
	switch r.Kind {
	case api.KindBind:
		r.Bind = bindWithoutOwn(r.Bind)
	case api.KindSearch:
		r.Search = api.Search{}
	case api.KindModify:
		r.Name, r.Changes = "", nil
	case api.KindAdd:
		r.Name, r.Attributes = "", nil
	case api.KindDelete:
		r.Name = ""
	case api.KindRename:
		r.Name, r.NewRDN, r.DeleteOld = "", "", false
		if r.HasNewSuperior {
			r.NewSuperior, r.HasNewSuperior = "", false
		}
	case api.KindCompare:
		r.Name, r.Desc, r.Value = "", "", ""
	case api.KindAbandon:
		r.Abandon = 0
	case api.KindExtended:
		r.Name = ""
		if r.HasValue {
			r.Value, r.HasValue = "", false
		}
	}
	return r
}

// bindWithoutOwn keeps a method that is none.
func bindWithoutOwn(b api.Bind) api.Bind {
	b.Version, b.Name = 0, ""
	switch b.Method {
	case api.MethodSimple:
		b.Password = ""
	case api.MethodSASL:
		b.Method, b.Mechanism = 0, ""
		if b.HasCredentials {
			b.Credentials, b.HasCredentials = "", false
		}
	}
	return b
}

// emptyRequest looks at all fields but those that every request has.
func emptyRequest(r api.Request) bool {
	return r.Bind == api.Bind{} && emptySearch(r.Search) &&
		r.Name == "" && len(r.Changes) == 0 && len(r.Attributes) == 0 &&
		r.NewRDN == "" && !r.DeleteOld && r.NewSuperior == "" && !r.HasNewSuperior &&
		r.Desc == "" && r.Value == "" && !r.HasValue && r.Abandon == 0
}

func emptySearch(s api.Search) bool {
	return s.Base == "" && s.Scope == 0 && s.Deref == 0 && s.SizeLimit == 0 && s.TimeLimit == 0 &&
		!s.TypesOnly && len(s.Filter) == 0 && len(s.Attributes) == 0
}

// withoutOwnOfReply is the same of a reply.
func withoutOwnOfReply(r api.Reply) api.Reply {
	switch r.Kind {
	case api.ReplyEntry:
		r.Name, r.Attributes = "", nil
	case api.ReplyExtended:
		if r.HasOID {
			r.OID, r.HasOID = "", false
		}
		fallthrough
	default:
		r.Result = api.Result{}
	}
	return r
}

// emptyReply looks at all fields but those that every reply has.
func emptyReply(r api.Reply) bool {
	return r.Result == api.Result{} && r.Name == "" && len(r.Attributes) == 0 && r.OID == "" && !r.HasOID
}
