package match

import (
	"strconv"
	"strings"
)

// instant is SynTime.
type instant struct {
	byBytes
	undivided
}

func (instant) normal(value string) (string, bool) {
	written, zone, ok := readTime(value)
	if !ok {
		return "", false
	}
	m := written.back(zone)
	if m.year < 0 || m.year > 9999 {
		return "", false
	}
	return m.stamp(), true
}

const (
	hourMinutes = 60
	dayMinutes  = 24 * hourMinutes
)

// date is a day of the calendar.
type date struct {
	year, month, day int
}

// moment is a time without its zone; the fraction is its digits.
type moment struct {
	date
	hour, minute, second int
	fraction             string
}

// back is the moment so many minutes earlier, less than a day; later, if they are below 0.
func (m moment) back(minutes int) moment {
	total := m.hour*hourMinutes + m.minute - minutes
	switch {
	case total < 0:
		m.date = m.dayAhead()
		total += dayMinutes
	case total >= dayMinutes:
		m.date = m.dayBehind()
		total -= dayMinutes
	}
	m.hour, m.minute = total/hourMinutes, total%hourMinutes
	return m
}

func (d date) dayAhead() date {
	switch {
	case d.day > 1:
		return date{d.year, d.month, d.day - 1}
	case d.month > 1:
		return date{d.year, d.month - 1, lastDay(d.year, d.month-1)}
	}
	return date{d.year - 1, 12, 31}
}

func (d date) dayBehind() date {
	switch {
	case d.day < lastDay(d.year, d.month):
		return date{d.year, d.month, d.day + 1}
	case d.month < 12:
		return date{d.year, d.month + 1, 1}
	}
	return date{d.year + 1, 1, 1}
}

func lastDay(year, month int) int {
	switch month {
	case 2:
		if year%4 == 0 && year%100 != 0 || year%400 == 0 {
			return 29
		}
		return 28
	case 4, 6, 9, 11:
		return 30
	}
	return 31
}

func (m moment) stamp() string {
	var out strings.Builder
	out.WriteString(padded(m.year, 4))
	for _, number := range [...]int{m.month, m.day, m.hour, m.minute, m.second} {
		out.WriteString(padded(number, 2))
	}
	if fraction := strings.TrimRight(m.fraction, "0"); fraction != "" {
		out.WriteString(".")
		out.WriteString(fraction)
	}
	return out.String()
}

func padded(number, size int) string {
	s := strconv.Itoa(number)
	return strings.Repeat("0", size-len(s)) + s
}

// readTime reads a moment and its zone, in minutes ahead of universal time.
func readTime(value string) (moment, int, bool) {
	var m moment
	r := timeReader{rest: value}
	m.year = r.number(4, 0, 9999)
	m.month = r.number(2, 1, 12)
	m.day = r.number(2, 1, lastDay(m.year, m.month))
	m.hour = r.number(2, 0, 23)
	if r.atDigit() {
		m.minute = r.number(2, 0, 59)
		if r.atDigit() {
			m.second = r.number(2, 0, 59)
			m.fraction = r.fraction()
		}
	}
	zone := r.zone()
	return m, zone, !r.broken && r.rest == ""
}

// timeReader goes through the text of a time. Once broken it stays so, and what it still answers counts for nothing.
type timeReader struct {
	rest   string
	broken bool
}

func (r *timeReader) atDigit() bool {
	return r.rest != "" && madeOf(r.rest[:1], digits)
}

// number takes so many digits, which must stand for a number from low to high.
func (r *timeReader) number(size, low, high int) int {
	if len(r.rest) < size || !madeOf(r.rest[:size], digits) {
		r.broken = true
		return low
	}
	// No error is left to come: a few digits are a number.
	number, _ := strconv.Atoi(r.rest[:size])
	r.rest = r.rest[size:]
	if number < low || number > high {
		r.broken = true
	}
	return number
}

// fraction takes a point or a comma and the digits behind it, if they are there.
func (r *timeReader) fraction() string {
	if r.rest == "" || !madeOf(r.rest[:1], ".,") {
		return ""
	}
	r.rest = r.rest[1:]
	if !r.atDigit() {
		r.broken = true
	}
	behind := strings.TrimLeft(r.rest, digits)
	taken := r.rest[:len(r.rest)-len(behind)]
	r.rest = behind
	return taken
}

func (r *timeReader) zone() int {
	if rest, found := strings.CutPrefix(r.rest, "Z"); found {
		r.rest = rest
		return 0
	}
	if rest, found := strings.CutPrefix(r.rest, "+"); found {
		r.rest = rest
		return r.zoneMinutes()
	}
	if rest, found := strings.CutPrefix(r.rest, "-"); found {
		r.rest = rest
		return -r.zoneMinutes()
	}
	r.broken = true
	return 0
}

func (r *timeReader) zoneMinutes() int {
	minutes := r.number(2, 0, 23) * hourMinutes
	if r.rest != "" {
		minutes += r.number(2, 0, 59)
	}
	return minutes
}
