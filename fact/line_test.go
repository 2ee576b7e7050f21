package fact_test

import (
	"fmt"
	"math"
	"strings"
	"testing"

	"wagebook/api"
	"wagebook/fact"
)

func TestP8_2Lines(t *testing.T) {
	facts := right()
	for kind, line := range lines() {
		if kind == 0 {
			continue
		}
		s, e := facts[kind].Line()
		check(t, "Line", s, line)
		check(t, "error of Line "+line, e, api.OK)
		f, e := fact.Parse(line)
		check(t, "Parse "+line, f, facts[kind])
		check(t, "error of Parse "+line, e, api.OK)
	}
}

func TestP8_2LineWrong(t *testing.T) {
	for _, f := range right()[1:] {
		for e, change := range map[api.Errno]func(f *fact.Fact){
			api.ErrKind:  func(f *fact.Fact) { f.Kind = 0 },
			api.ErrRange: func(f *fact.Fact) { f.Num = math.MinInt64 },
			api.ErrDay:   func(f *fact.Fact) { f.From = lastDay + 1 },
			api.ErrSpan:  func(f *fact.Fact) { f.To = f.From - 1 },
			api.ErrName:  func(f *fact.Fact) { f.Code = "A" },
			api.ErrLong:  func(f *fact.Fact) { f.Text = strings.Repeat("x", 4097) },
			api.ErrForm:  func(f *fact.Fact) { f.Text = "\n" },
		} {
			g := f
			change(&g)
			s, got := g.Line()
			check(t, named("Line", g), s, "")
			check(t, named("error of Line", g), got, e)
		}
	}
}

func TestP8_2Edges(t *testing.T) {
	for line, wanted := range map[string]fact.Fact{
		"part 4294967295 4294967295 1900-01-01 1900-01-02 - 0":        {ID: math.MaxUint32, Person: math.MaxUint32, Kind: fact.Part, From: firstDay, To: firstDay + 1},
		"part 0 1 2199-12-31 end - 1000000":                           {Person: 1, Kind: fact.Part, From: lastDay, To: lastDay + 1, Num: 1000000},
		"part 0 1 2199-12-30 2199-12-31 - 7":                          {Person: 1, Kind: fact.Part, From: lastDay - 1, To: lastDay, Num: 7},
		"part 0 1 1970-01-01 1970-01-02 - 7":                          {Person: 1, Kind: fact.Part, To: 1, Num: 7},
		"part 0 1 1969-12-30 1969-12-31 - 7":                          {Person: 1, Kind: fact.Part, From: -2, To: -1, Num: 7},
		"part 0 1 1969-12-31 - - 7":                                   {Person: 1, Kind: fact.Part, From: -1, Num: 7},
		"sheet 0 1 2024-01-01 - - 480":                                {Person: 1, Kind: fact.Sheet, From: newYear, Num: 480},
		"sheet 0 1 2024-01-01 - -- 480 0":                             {Person: 1, Kind: fact.Sheet, From: newYear, Code: "--", Num: 480, Text: "0"},
		"bonus 0 1 2024-01-01 - end 1125899906842624":                 {Person: 1, Kind: fact.Bonus, From: newYear, Code: "end", Num: 1 << 50},
		"bonus 0 1 2024-01-01 - x -1125899906842624":                  {Person: 1, Kind: fact.Bonus, From: newYear, Code: "x", Num: -1 << 50},
		"rule 0 0 2024-01-01 - x 0":                                   {Kind: fact.Rule, From: newYear, Code: "x"},
		"rule 0 0 2024-01-01 - x 0  ":                                 {Kind: fact.Rule, From: newYear, Code: "x", Text: " "},
		"rule 0 0 2024-01-01 - x 0  a ":                               {Kind: fact.Rule, From: newYear, Code: "x", Text: " a "},
		"rule 0 0 2024-01-01 - x 0 - ~":                               {Kind: fact.Rule, From: newYear, Code: "x", Text: "- ~"},
		"rule 0 0 2024-01-01 end x 0 " + strings.Repeat("a b ", 1024): {Kind: fact.Rule, From: newYear, To: lastDay + 1, Code: "x", Text: strings.Repeat("a b ", 1024)},
	} {
		f, e := fact.Parse(line)
		check(t, fmt.Sprintf("Parse %.60q", line), f, wanted)
		check(t, fmt.Sprintf("error of Parse %.60q", line), e, api.OK)
		s, e := wanted.Line()
		check(t, named("Line", wanted), s, line)
		check(t, named("error of Line", wanted), e, api.OK)
	}
}

// fields are those of a line that is right, by their place; each is turned to what is wrong there.
func fields() [7]string {
	return [7]string{"bonus", "5", "1", "2024-01-01", "-", "x", "7"}
}

func TestP8_2FieldsOfNoForm(t *testing.T) {
	number := []string{"", "00", "07", "-1", "+1", "-", "x", "1.0", "4294967296", "18446744073709551616", "99999999999999999999999", "1_0", "0x1", "\u0664"}
	day := []string{"", "2023-02-29", "2024-13-01", "2024-00-01", "2024-01-00", "2024-1-1", "1899-12-31", "2200-01-01", "24-01-01", "2024/01/01", "02024-01-01", "today"}
	for place, wrong := range [7][]string{
		{"", "Bonus", "bonu", "bonuss", "-", "8", "\x00bonus", "wage"},
		number,
		number,
		append(day, "-", "end"),
		append(day, "1970-01-01", "--", "End", "ende", "0"),
		{""},
		{"", "-0", "00", "07", "-07", "--7", "+7", "-", "7.", "7.0", "x", "0x7", "1_0", "7\t", "9223372036854775808", "-9223372036854775809", "18446744073709551616", "-18446744073709551616"},
	} {
		for _, s := range wrong {
			l := fields()
			l[place] = s
			line := strings.Join(l[:], " ")
			f, e := fact.Parse(line)
			check(t, fmt.Sprintf("error of Parse %q", line), e, api.ErrForm)
			check(t, fmt.Sprintf("Parse %q", line), f, fact.Fact{})
			f, e = fact.Parse(line + " text")
			check(t, fmt.Sprintf("error of Parse %q with a text", line), e, api.ErrForm)
			check(t, fmt.Sprintf("Parse %q with a text", line), f, fact.Fact{})
		}
	}
}

func TestP8_2LinesOfNoForm(t *testing.T) {
	l := fields()
	whole := strings.Join(l[:], " ")
	_, e := fact.Parse(whole)
	check(t, "error of Parse "+whole, e, api.OK)
	for n := range len(whole) - 1 {
		_, e := fact.Parse(whole[:n])
		check(t, fmt.Sprintf("error of Parse %q", whole[:n]), e, api.ErrForm)
	}
	for n := range len(l) {
		line := strings.Join(l[:n], " ")
		_, e := fact.Parse(line)
		check(t, fmt.Sprintf("error of Parse %q", line), e, api.ErrForm)
		_, e = fact.Parse(line + " ")
		check(t, fmt.Sprintf("error of Parse %q", line+" "), e, api.ErrForm)
	}
	for _, line := range []string{" " + whole, whole + " ", whole + "\n", "\n" + whole, strings.Replace(whole, " ", "  ", 1), strings.ReplaceAll(whole, " ", "\t"), " ", "       ", "      - 7"} {
		f, e := fact.Parse(line)
		check(t, fmt.Sprintf("error of Parse %q", line), e, api.ErrForm)
		check(t, fmt.Sprintf("Parse %q", line), f, fact.Fact{})
	}
}

func TestP8_2WrongFacts(t *testing.T) {
	for line, wanted := range map[string]api.Errno{
		"bonus 0 0 2024-01-01 - x 7":                                     api.ErrRange,
		"rule 0 1 2024-01-01 - x 7":                                      api.ErrRange,
		"cancel 0 0 1970-01-02 - - 1":                                    api.ErrDay,
		"cancel 0 0 1970-01-01 - - 0":                                    api.ErrRange,
		"cancel 0 0 1970-01-01 - - 4097":                                 api.ErrRange,
		"bonus 0 1 2024-01-01 2024-01-02 x 7":                            api.ErrSpan,
		"bonus 0 1 2024-01-01 end x 7":                                   api.ErrSpan,
		"part 0 1 2024-01-01 2024-01-01 - 7":                             api.ErrSpan,
		"part 0 1 2024-01-02 2024-01-01 - 7":                             api.ErrSpan,
		"bonus 0 1 2024-01-01 - - 7":                                     api.ErrName,
		"bonus 0 1 2024-01-01 - x\ny 7":                                  api.ErrName,
		"bonus 0 1 2024-01-01 - \xff 7":                                  api.ErrName,
		"part 0 1 2024-01-01 - x 7":                                      api.ErrName,
		"bonus 0 1 2024-01-01 - x 1125899906842625":                      api.ErrRange,
		"bonus 0 1 2024-01-01 - x 9223372036854775807":                   api.ErrRange,
		"bonus 0 1 2024-01-01 - x -9223372036854775808":                  api.ErrRange,
		"bonus 0 1 2024-01-01 - x 7 text":                                api.ErrForm,
		"bonus 0 1 2024-01-01 - x 7  ":                                   api.ErrForm,
		"element 0 0 2024-01-01 - x 0":                                   api.ErrForm,
		"rule 0 0 2024-01-01 - x 0 a\nb":                                 api.ErrForm,
		"bonus 0 1 2024-01-01 - x 7 " + strings.Repeat("t", 4097):        api.ErrLong,
		"bonus 0 0 2024-01-01 end X 1125899906842625 t":                  api.ErrRange, // the first of all that is wrong
		"bonus 0 1 2024-01-01 end X 1125899906842625 t":                  api.ErrSpan,
		"bonus 0 1 2024-01-01 - X 1125899906842625 t":                    api.ErrName,
		"rule 0 0 2024-01-01 - x 0 " + strings.Repeat("\n", 1<<20):       api.ErrLong,
		"rule 0 0 2024-01-01 - " + strings.Repeat("x", 1<<20) + " 0 a b": api.ErrName,
	} {
		f, e := fact.Parse(line)
		check(t, fmt.Sprintf("error of Parse %.60q", line), e, wanted)
		check(t, fmt.Sprintf("Parse %.60q", line), f, fact.Fact{})
	}
}
