package slip

import (
	"strings"

	"wagebook/api"
	"wagebook/cents"
	"wagebook/period"
	"wagebook/word"
)

// words are the parts', by their numbers.
var words = [...]string{
	api.Gross:  "gross",
	api.Before: "before",
	api.Worker: "worker",
	api.Tax:    "tax",
	api.After:  "after",
	api.Orders: "orders",
	api.Firm:   "firm",
}

// heading stands ahead of the period in the first line of a slip's text.
const heading = "slip "

// mostNumber is the greatest number of seven digits: more have the form of neither a year nor an index.
const mostNumber = 9999999

// Text is a right slip's text, or nothing of others.
func Text(s api.Slip) string {
	if Check(s) != api.OK {
		return ""
	}
	var t strings.Builder
	t.WriteString(heading + period.Period{Year: s.Year, Index: s.Index}.Text() + "\n")
	for _, l := range s.Lines {
		t.WriteString(words[l.Part] + " " + l.Code + " " + cents.Text(l.Cents) + "\n")
	}
	return t.String()
}

// Parse reads back what Text tells.
func Parse(t string) (api.Slip, api.Errno) {
	if t == "" {
		return api.Slip{}, api.ErrEmpty
	}
	s, ok := read(t)
	if !ok {
		return api.Slip{}, api.ErrForm
	}
	if e := Check(s); e != api.OK {
		return api.Slip{}, e
	}
	return s, api.OK
}

// Why is how a part of a right slip comes to its sum, line by line.
func Why(s api.Slip, part int) string {
	if Check(s) != api.OK || !isPart(part) {
		return ""
	}
	var t strings.Builder
	var sum api.Cents
	for _, item := range Part(s, part) {
		sum += item.Cents
		t.WriteString(item.Code + " " + cents.Text(item.Cents) + "\n")
	}
	if !cents.Fits(sum) {
		return ""
	}
	t.WriteString("= " + cents.Text(sum) + "\n")
	return t.String()
}

// read is the slip, right or not, of a text that is built as one.
func read(t string) (api.Slip, bool) {
	body, isEnded := strings.CutSuffix(t, "\n")
	if !isEnded {
		return api.Slip{}, false
	}
	lines := strings.Split(body, "\n")
	s, ok := readHead(lines[0])
	if !ok {
		return api.Slip{}, false
	}
	for _, text := range lines[1:] {
		line, ok := readLine(text)
		if !ok {
			return api.Slip{}, false
		}
		s.Lines = append(s.Lines, line)
	}
	return s, true
}

// readHead is a slip without lines, of the first line of a text.
func readHead(text string) (api.Slip, bool) {
	text, isHead := strings.CutPrefix(text, heading)
	year, index, _ := strings.Cut(text, "/")
	if !isHead || len(index) < 2 { // without a / the index is empty
		return api.Slip{}, false
	}
	if len(index) == 2 {
		index = strings.TrimPrefix(index, "0")
	}
	y, e := word.Number(year, mostNumber)
	i, f := word.Number(index, mostNumber)
	return api.Slip{Year: int(y), Index: int(i)}, e == api.OK && f == api.OK
}

// readLine is a line of its text, right or not; an amount that doesn't fit has none.
func readLine(text string) (api.Line, bool) {
	fields := strings.Split(text, " ")
	if len(fields) != 3 || fields[1] == "" {
		return api.Line{}, false
	}
	part, isWord := partOf(fields[0])
	c, e := cents.Parse(fields[2])
	return api.Line{Part: part, Code: fields[1], Cents: c}, isWord && e == api.OK
}

// partOf is the part that a word is of.
func partOf(s string) (int, bool) {
	for part, w := range words {
		if w == s {
			return part, true
		}
	}
	return 0, false
}
