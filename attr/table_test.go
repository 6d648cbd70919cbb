package attr

import (
	"slices"
	"strconv"
	"strings"

	"roster/api"
)

// document is the chapter's table, line by line.
const document = `
| 0 | objectClass | | 2.5.4.0 | | SynOID | |
| 1 | aliasedObjectName | aliasedEntryName | 2.5.4.1 | | SynName | |
| 2 | name | | 2.5.4.41 | | SynText | |
| 3 | distinguishedName | | 2.5.4.49 | | SynName | |
| 4 | cn | commonName | 2.5.4.3 | 2 | SynText | |
| 5 | sn | surname | 2.5.4.4 | 2 | SynText | |
| 6 | serialNumber | | 2.5.4.5 | | SynText | |
| 7 | c | countryName | 2.5.4.6 | 2 | SynText | |
| 8 | l | localityName | 2.5.4.7 | 2 | SynText | |
| 9 | st | stateOrProvinceName | 2.5.4.8 | 2 | SynText | |
| 10 | street | streetAddress | 2.5.4.9 | | SynText | |
| 11 | o | organizationName | 2.5.4.10 | 2 | SynText | |
| 12 | ou | organizationalUnitName | 2.5.4.11 | 2 | SynText | |
| 13 | title | | 2.5.4.12 | 2 | SynText | |
| 14 | description | | 2.5.4.13 | | SynText | |
| 15 | businessCategory | | 2.5.4.15 | | SynText | |
| 16 | postalAddress | | 2.5.4.16 | | SynList | |
| 17 | postalCode | | 2.5.4.17 | | SynText | |
| 18 | postOfficeBox | | 2.5.4.18 | | SynText | |
| 19 | physicalDeliveryOfficeName | | 2.5.4.19 | | SynText | |
| 20 | telephoneNumber | | 2.5.4.20 | | SynPhone | |
| 21 | facsimileTelephoneNumber | fax | 2.5.4.23 | | SynPhone | |
| 22 | x121Address | | 2.5.4.24 | | SynNumeric | |
| 23 | internationalISDNNumber | | 2.5.4.25 | | SynNumeric | |
| 24 | registeredAddress | | 2.5.4.26 | 16 | SynList | |
| 25 | destinationIndicator | | 2.5.4.27 | | SynText | |
| 26 | member | | 2.5.4.31 | 3 | SynName | |
| 27 | owner | | 2.5.4.32 | 3 | SynName | |
| 28 | roleOccupant | | 2.5.4.33 | 3 | SynName | |
| 29 | seeAlso | | 2.5.4.34 | 3 | SynName | |
| 30 | userPassword | | 2.5.4.35 | | SynOctet | |
| 31 | givenName | gn | 2.5.4.42 | 2 | SynText | |
| 32 | initials | | 2.5.4.43 | 2 | SynText | |
| 33 | generationQualifier | | 2.5.4.44 | 2 | SynText | |
| 34 | dnQualifier | | 2.5.4.46 | | SynText | |
| 35 | houseIdentifier | | 2.5.4.51 | | SynText | |
| 36 | c-l | | 2.5.4.7.1 | 8 | SynText | |
| 37 | c-st | | 2.5.4.8.1 | 9 | SynText | |
| 38 | c-o | | 2.5.4.10.1 | 11 | SynText | |
| 39 | c-ou | | 2.5.4.11.1 | 12 | SynText | |
| 40 | uid | userid | 0.9.2342.19200300.100.1.1 | | SynText | |
| 41 | mail | rfc822Mailbox | 0.9.2342.19200300.100.1.3 | | SynIA5 | |
| 42 | roomNumber | | 0.9.2342.19200300.100.1.6 | | SynText | |
| 43 | manager | | 0.9.2342.19200300.100.1.10 | | SynName | |
| 44 | homePhone | homeTelephoneNumber | 0.9.2342.19200300.100.1.20 | | SynPhone | |
| 45 | secretary | | 0.9.2342.19200300.100.1.21 | | SynName | |
| 46 | dc | domainComponent | 0.9.2342.19200300.100.1.25 | | SynIA5 | |
| 47 | mobile | mobileTelephoneNumber | 0.9.2342.19200300.100.1.41 | | SynPhone | |
| 48 | pager | pagerTelephoneNumber | 0.9.2342.19200300.100.1.42 | | SynPhone | |
| 49 | employeeNumber | | 2.16.840.1.113730.3.1.3 | | SynText | |
| 50 | displayName | | 2.16.840.1.113730.3.1.241 | | SynText | |
| 51 | uidNumber | | 1.3.6.1.1.1.1.0 | | SynInteger | |
| 52 | gidNumber | | 1.3.6.1.1.1.1.1 | | SynInteger | |
| 53 | homeDirectory | | 1.3.6.1.1.1.1.3 | | SynIA5Exact | |
| 54 | loginShell | | 1.3.6.1.1.1.1.4 | | SynIA5Exact | |
| 55 | labeledURI | | 1.3.6.1.4.1.250.1.57 | | SynExact | |
| 56 | createTimestamp | | 2.5.18.1 | | SynTime | yes |
| 57 | modifyTimestamp | | 2.5.18.2 | | SynTime | yes |
| 58 | creatorsName | | 2.5.18.3 | | SynName | yes |
| 59 | modifiersName | | 2.5.18.4 | | SynName | yes |
| 60 | hasSubordinates | | 2.5.18.9 | | SynBoolean | yes |
| 61 | x500UniqueIdentifier | | 2.5.4.45 | | SynBits | |
`

// line is a row as the chapter writes it.
type line struct {
	name, oid string
	others    []string
	super     int // -1: none
	syntax    api.Syntax
	usage     api.Usage
}

// table is the chapter's table, and callings are the texts that name each row, in small letters.
var (
	table    = lines()
	callings = lowered(table)
)

func lowered(rows []line) [][]string {
	var all [][]string
	for _, l := range rows {
		all = append(all, strings.Fields(strings.ToLower(strings.Join(l.texts(), " "))))
	}
	return all
}

// lines reads the chapter's table.
func lines() []line {
	var all []line
	for _, text := range strings.Split(strings.TrimSpace(document), "\n") {
		cells := strings.Split(text, "|")
		for i := range cells {
			cells[i] = strings.TrimSpace(cells[i])
		}
		l := line{name: cells[2], others: strings.Fields(cells[3]), oid: cells[4], super: -1, syntax: syntaxNamed(cells[6])}
		if cells[5] != "" {
			l.super, _ = strconv.Atoi(cells[5])
		}
		if cells[7] == "yes" {
			l.usage = api.Operational
		}
		all = append(all, l)
	}
	return all
}

func syntaxNamed(word string) api.Syntax {
	words := strings.Fields("SynNone SynText SynExact SynIA5 SynIA5Exact SynNumeric SynPhone SynInteger SynBoolean SynOctet SynName SynOID SynTime SynList SynBits")
	return api.Syntax(slices.Index(words, word))
}

// texts are those that name the row, as the chapter writes them.
func (l line) texts() []string {
	return append([]string{l.name, l.oid}, l.others...)
}

// told is the row as the calls tell it.
func (l line) told() api.AttrType {
	t := api.AttrType{Name: strings.ToLower(l.name), OID: l.oid, Syntax: l.syntax, Usage: l.usage}
	for _, other := range l.others {
		t.Aliases = append(t.Aliases, strings.ToLower(other))
	}
	if l.super >= 0 {
		t.Super = strings.ToLower(table[l.super].name)
	}
	return t
}

func sameRow(a, b api.AttrType) bool {
	return a.Name == b.Name && slices.Equal(a.Aliases, b.Aliases) && a.OID == b.OID && a.Super == b.Super && a.Syntax == b.Syntax && a.Usage == b.Usage
}
