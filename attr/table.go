package attr

import (
	"iter"

	"roster/api"
)

// count is the number of rows of the chapter's table.
const count = 62

// The columns that are numbers stand here, by the rows' numbers; what a type is called, being too long for a table here, in the functions below.

// supers tells the row that each row stands beneath. 0 is none, as no type stands beneath objectClass.
var supers = [count]int{
	4: 2, 5: 2, 7: 2, 8: 2, 9: 2, 11: 2, 12: 2, 13: 2,
	24: 16,
	26: 3, 27: 3, 28: 3, 29: 3,
	31: 2, 32: 2, 33: 2,
	36: 8, 37: 9, 38: 11, 39: 12,
}

var syntaxes = [count]api.Syntax{
	api.SynOID, api.SynName, api.SynText, api.SynName, api.SynText, // 0 to 4
	api.SynText, api.SynText, api.SynText, api.SynText, api.SynText, // 5 to 9
	api.SynText, api.SynText, api.SynText, api.SynText, api.SynText, // 10 to 14
	api.SynText, api.SynList, api.SynText, api.SynText, api.SynText, // 15 to 19
	api.SynPhone, api.SynPhone, api.SynNumeric, api.SynNumeric, api.SynList, // 20 to 24
	api.SynText, api.SynName, api.SynName, api.SynName, api.SynName, // 25 to 29
	api.SynOctet, api.SynText, api.SynText, api.SynText, api.SynText, // 30 to 34
	api.SynText, api.SynText, api.SynText, api.SynText, api.SynText, // 35 to 39
	api.SynText, api.SynIA5, api.SynText, api.SynName, api.SynPhone, // 40 to 44
	api.SynName, api.SynIA5, api.SynPhone, api.SynPhone, api.SynText, // 45 to 49
	api.SynText, api.SynInteger, api.SynInteger, api.SynIA5Exact, api.SynIA5Exact, // 50 to 54
	api.SynExact, api.SynTime, api.SynTime, api.SynName, api.SynName, // 55 to 59
	api.SynBoolean, api.SynBits, // 60, 61
}

var usages = [count]api.Usage{
	56: api.Operational,
	57: api.Operational,
	58: api.Operational,
	59: api.Operational,
	60: api.Operational,
}

// label is what a type is called, in small letters. No row has more than one other name; "" is none.
type label struct {
	name, other, oid string
}

// labels goes through what the rows are called, in their order.
func labels() iter.Seq2[int, label] {
	return func(yield func(int, label) bool) {
		low, high := lowLabels(), highLabels()
		for i, l := range low {
			if !yield(i, l) {
				return
			}
		}
		for i, l := range high {
			if !yield(len(low)+i, l) {
				return
			}
		}
	}
}

// lowLabels are the labels of the rows 0 to 35.
func lowLabels() [36]label {
	return [...]label{
		{"objectclass", "", "2.5.4.0"},
		{"aliasedobjectname", "aliasedentryname", "2.5.4.1"},
		{"name", "", "2.5.4.41"},
		{"distinguishedname", "", "2.5.4.49"},
		{"cn", "commonname", "2.5.4.3"},
		{"sn", "surname", "2.5.4.4"},
		{"serialnumber", "", "2.5.4.5"},
		{"c", "countryname", "2.5.4.6"},
		{"l", "localityname", "2.5.4.7"},
		{"st", "stateorprovincename", "2.5.4.8"},
		{"street", "streetaddress", "2.5.4.9"},
		{"o", "organizationname", "2.5.4.10"},
		{"ou", "organizationalunitname", "2.5.4.11"},
		{"title", "", "2.5.4.12"},
		{"description", "", "2.5.4.13"},
		{"businesscategory", "", "2.5.4.15"},
		{"postaladdress", "", "2.5.4.16"},
		{"postalcode", "", "2.5.4.17"},
		{"postofficebox", "", "2.5.4.18"},
		{"physicaldeliveryofficename", "", "2.5.4.19"},
		{"telephonenumber", "", "2.5.4.20"},
		{"facsimiletelephonenumber", "fax", "2.5.4.23"},
		{"x121address", "", "2.5.4.24"},
		{"internationalisdnnumber", "", "2.5.4.25"},
		{"registeredaddress", "", "2.5.4.26"},
		{"destinationindicator", "", "2.5.4.27"},
		{"member", "", "2.5.4.31"},
		{"owner", "", "2.5.4.32"},
		{"roleoccupant", "", "2.5.4.33"},
		{"seealso", "", "2.5.4.34"},
		{"userpassword", "", "2.5.4.35"},
		{"givenname", "gn", "2.5.4.42"},
		{"initials", "", "2.5.4.43"},
		{"generationqualifier", "", "2.5.4.44"},
		{"dnqualifier", "", "2.5.4.46"},
		{"houseidentifier", "", "2.5.4.51"},
	}
}

// highLabels are the labels of the rows 36 to 61.
func highLabels() [26]label {
	return [...]label{
		{"c-l", "", "2.5.4.7.1"},
		{"c-st", "", "2.5.4.8.1"},
		{"c-o", "", "2.5.4.10.1"},
		{"c-ou", "", "2.5.4.11.1"},
		{"uid", "userid", "0.9.2342.19200300.100.1.1"},
		{"mail", "rfc822mailbox", "0.9.2342.19200300.100.1.3"},
		{"roomnumber", "", "0.9.2342.19200300.100.1.6"},
		{"manager", "", "0.9.2342.19200300.100.1.10"},
		{"homephone", "hometelephonenumber", "0.9.2342.19200300.100.1.20"},
		{"secretary", "", "0.9.2342.19200300.100.1.21"},
		{"dc", "domaincomponent", "0.9.2342.19200300.100.1.25"},
		{"mobile", "mobiletelephonenumber", "0.9.2342.19200300.100.1.41"},
		{"pager", "pagertelephonenumber", "0.9.2342.19200300.100.1.42"},
		{"employeenumber", "", "2.16.840.1.113730.3.1.3"},
		{"displayname", "", "2.16.840.1.113730.3.1.241"},
		{"uidnumber", "", "1.3.6.1.1.1.1.0"},
		{"gidnumber", "", "1.3.6.1.1.1.1.1"},
		{"homedirectory", "", "1.3.6.1.1.1.1.3"},
		{"loginshell", "", "1.3.6.1.1.1.1.4"},
		{"labeleduri", "", "1.3.6.1.4.1.250.1.57"},
		{"createtimestamp", "", "2.5.18.1"},
		{"modifytimestamp", "", "2.5.18.2"},
		{"creatorsname", "", "2.5.18.3"},
		{"modifiersname", "", "2.5.18.4"},
		{"hassubordinates", "", "2.5.18.9"},
		{"x500uniqueidentifier", "", "2.5.4.45"},
	}
}
