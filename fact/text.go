package fact

import (
	"math"
	"strconv"
	"strings"

	"wagebook/api"
	"wagebook/civil"
	"wagebook/word"
)

// What stands in a line for nothing, and for the day behind the calendar's last one.
const (
	noneText = "-"
	endText  = "end"
)

// Line is a right fact's line.
func (f Fact) Line() (string, api.Errno) {
	if e := f.Check(); e != api.OK {
		return "", e
	}
	fields := []string{
		Name(f.Kind), tellNumber(f.ID), tellNumber(f.Person), civil.Text(f.From), tellTo(f.To), tellCode(f.Code), strconv.FormatInt(f.Num, 10),
	}
	if f.Text != "" {
		fields = append(fields, f.Text)
	}
	return strings.Join(fields, " "), api.OK
}

// tellNumber is an ID or a Person in tens.
func tellNumber(n uint32) string {
	return strconv.FormatUint(uint64(n), 10)
}

// tellTo is a right fact's To as it stands in a line.
func tellTo(d api.Day) string {
	switch d {
	case 0:
		return noneText
	case endDay:
		return endText
	}
	return civil.Text(d)
}

// tellCode is a code as it stands in a line.
func tellCode(code string) string {
	if code == "" {
		return noneText
	}
	return code
}

// Parse is the right fact whose line s is.
func Parse(s string) (Fact, api.Errno) {
	f, ok := read(s)
	if !ok {
		return Fact{}, api.ErrForm
	}
	if e := f.Check(); e != api.OK {
		return Fact{}, e
	}
	return f, api.OK
}

// read takes a line apart: the fact may still not be right, but it has no other line than this one.
func read(s string) (Fact, bool) {
	rest, more := s, true
	next := func() (field string) { // behind the last field it is empty, which none of them may be
		field, rest, more = strings.Cut(rest, " ")
		return field
	}
	var f Fact
	var ok [7]bool
	f.Kind, ok[0] = readKind(next())
	f.ID, ok[1] = readNumber(next())
	f.Person, ok[2] = readNumber(next())
	f.From, ok[3] = readDay(next())
	f.To, ok[4] = readTo(next())
	f.Code, ok[5] = readCode(next())
	f.Num, ok[6] = readNum(next())
	f.Text = rest
	whole := ok == [7]bool{true, true, true, true, true, true, true}
	return f, whole && more == (rest != "") // a blank at the end would be lost
}

// readKind is the kind of a name.
func readKind(s string) (int, bool) {
	for kind, a := range kinds() {
		if isKind(kind) && a.name == s {
			return kind, true
		}
	}
	return 0, false
}

// readNumber is an ID, or a Person.
func readNumber(s string) (uint32, bool) {
	n, e := word.Number(s, math.MaxUint32)
	return uint32(n), e == api.OK
}

// readDay is the day of a day's text.
func readDay(s string) (api.Day, bool) {
	d, e := civil.Parse(s)
	return d, e == api.OK
}

// readTo is the day of what tellTo tells; so 1970-01-01, which is 0, has no text as To.
func readTo(s string) (api.Day, bool) {
	switch s {
	case noneText:
		return 0, true
	case endText:
		return endDay, true
	}
	d, ok := readDay(s)
	return d, ok && d != 0
}

// readCode is the code of what tellCode tells.
func readCode(s string) (string, bool) {
	if s == noneText {
		return "", true
	}
	return s, s != ""
}

// readNum is a number of 64 bits, which may be below 0.
func readNum(s string) (int64, bool) {
	digits, below := strings.CutPrefix(s, "-")
	if !below {
		n, e := word.Number(digits, math.MaxInt64)
		return int64(n), e == api.OK
	}
	n, e := word.Number(digits, -math.MinInt64)
	return -int64(n), e == api.OK && n != 0 // the least one wraps round to itself
}
