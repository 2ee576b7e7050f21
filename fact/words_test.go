package fact_test

import (
	"fmt"
	"math"
	"math/big"
	"math/rand"
	"regexp"
	"strconv"
	"strings"
	"testing"
	"time"

	"wagebook/api"
	"wagebook/fact"
)

const (
	firstDay = api.Day(-25567) // 1900-01-01
	lastDay  = api.Day(84005)  // 2199-12-31
	newYear  = api.Day(19723)  // 2024-01-01
)

// check fails the test, if something is another thing than was wanted.
func check[T comparable](t *testing.T, what string, got, wanted T) {
	t.Helper()
	if got != wanted {
		t.Errorf("%s: %v, wanted %v", what, got, wanted)
	}
}

// right is a right fact of each kind, by its number.
func right() []fact.Fact {
	return []fact.Fact{
		fact.Employ:  {ID: 3, Person: 1, Kind: 1, From: newYear, Num: 1},
		fact.Salary:  {ID: 7, Person: 12, Kind: 2, From: newYear, Num: 6000000},
		fact.Part:    {Person: 1, Kind: 3, From: newYear, To: newYear + 31, Num: 500000},
		fact.Hours:   {Person: 1, Kind: 4, From: newYear, Text: "480 480 480 480 480 0 0"},
		fact.Cost:    {Person: 1, Kind: 5, From: newYear, To: lastDay + 1, Text: "a:60 b:40"},
		fact.Sheet:   {Person: 1, Kind: 6, From: newYear, Code: "p1", Num: 480, Text: "60"},
		fact.Absent:  {Person: 1, Kind: 7, From: newYear, To: newYear + 4, Code: "sick", Num: 700000},
		fact.Bonus:   {Person: 1, Kind: 8, From: newYear, Code: "xmas", Num: -500},
		fact.Enrol:   {Person: 1, Kind: 9, From: newYear, Code: "pension", Num: 20000},
		fact.Deduct:  {Person: 1, Kind: 10, From: newYear, Code: "canteen", Num: 500},
		fact.Card:    {Person: 1, Kind: 11, From: newYear, Num: 1200000, Text: "table.a"},
		fact.Attach:  {Person: 3, Kind: 12, From: newYear, To: newYear + 366, Code: "loan", Num: 500000, Text: "1 10% 0.00 1200.00"},
		fact.Bank:    {Person: 1, Kind: 13, From: newYear, Text: "de.12"},
		fact.Rule:    {Kind: 14, From: newYear, Code: "x", Num: -7, Text: "any text: 1,  2"},
		fact.Element: {Kind: 15, From: newYear, Code: "meal", Text: "days*3.5"},
		fact.Holiday: {Kind: 16, From: newYear + 359},
		fact.Grant:   {Person: 1, Kind: 17, From: newYear, Num: 3000},
		fact.Cancel:  {ID: 8, Kind: 18, Num: 17},
	}
}

// lines are the lines of those, by their kinds' numbers.
func lines() []string {
	return []string{
		fact.Employ:  "employ 3 1 2024-01-01 - - 1",
		fact.Salary:  "salary 7 12 2024-01-01 - - 6000000",
		fact.Part:    "part 0 1 2024-01-01 2024-02-01 - 500000",
		fact.Hours:   "hours 0 1 2024-01-01 - - 0 480 480 480 480 480 0 0",
		fact.Cost:    "cost 0 1 2024-01-01 end - 0 a:60 b:40",
		fact.Sheet:   "sheet 0 1 2024-01-01 - p1 480 60",
		fact.Absent:  "absent 0 1 2024-01-01 2024-01-05 sick 700000",
		fact.Bonus:   "bonus 0 1 2024-01-01 - xmas -500",
		fact.Enrol:   "enrol 0 1 2024-01-01 - pension 20000",
		fact.Deduct:  "deduct 0 1 2024-01-01 - canteen 500",
		fact.Card:    "card 0 1 2024-01-01 - - 1200000 table.a",
		fact.Attach:  "attach 0 3 2024-01-01 2025-01-01 loan 500000 1 10% 0.00 1200.00",
		fact.Bank:    "bank 0 1 2024-01-01 - - 0 de.12",
		fact.Rule:    "rule 0 0 2024-01-01 - x -7 any text: 1,  2",
		fact.Element: "element 0 0 2024-01-01 - meal 0 days*3.5",
		fact.Holiday: "holiday 0 0 2024-12-25 - - 0",
		fact.Grant:   "grant 0 1 2024-01-01 - - 3000",
		fact.Cancel:  "cancel 8 0 1970-01-01 - - 17",
	}
}

// hasDays and isFirms tell whether a kind has a D, or an F, in the chapter's table.
func hasDays(kind int) bool { return " DDDDD-D-DDDDDDD---"[kind] == 'D' }
func isFirms(kind int) bool { return " -------------FFF-F"[kind] == 'F' }

// whole is a form that all of a text must have.
func whole(form string) *regexp.Regexp {
	return regexp.MustCompile(`^(?:` + form + `)\z`)
}

const minutesForm = `(?:0|[1-9][0-9]{0,2}|1[0-3][0-9]{2}|14[0-3][0-9]|1440)`

// The chapter's words, as forms.
var (
	nameForm    = whole(`[a-z0-9._-]{1,32}`)
	numberForm  = whole(`0|[1-9][0-9]*`)
	amountForm  = whole(`(?:0|[1-9][0-9]*)\.[0-9][0-9]`)
	rankForm    = whole(`0|[1-9][0-9]?`)
	rateForm    = whole(`(?:0|[1-9][0-9]?)(?:\.[0-9]{0,3}[1-9])?%|100%`)
	absenceForm = whole(`sick|leave|unpaid|parental`)
	weekForm    = whole(minutesForm + `(?: ` + minutesForm + `){6}`)
	textForm    = whole(`[\x20-\x7e]*`)
	lineForm    = whole(`([a-z]+) ([0-9]+) ([0-9]+) ([0-9-]{10}) (-|end|[0-9-]{10}) ([^ ]+) (-?[0-9]+)( [\x00-\x{10ffff}]+)?`)
)

// isName, isNumber, areWeights, isAmount and isOrder tell whether a text is what the chapter calls so.
func isName(s string) bool { return nameForm.MatchString(s) && s != "-" }

func isNumber(s string, least, most int64) bool {
	return numberForm.MatchString(s) && isWithin(s, least, most)
}

func isWithin(digits string, least, most int64) bool {
	n, ok := new(big.Int).SetString(digits, 10)
	return ok && n.Cmp(big.NewInt(least)) >= 0 && n.Cmp(big.NewInt(most)) <= 0
}

func areWeights(s string) bool {
	names := map[string]int{}
	words := strings.Split(s, " ")
	for _, w := range words {
		at := strings.LastIndex(w, ":")
		if at < 0 || !isName(w[:at]) || !isNumber(w[at+1:], 1, 1000000) {
			return false
		}
		names[w[:at]]++
	}
	return len(names) == len(words) && len(words) <= 64
}

func isAmount(s string) bool {
	return amountForm.MatchString(s) && isWithin(strings.Replace(s, ".", "", 1), 0, 1<<50)
}

func isOrder(s string) bool {
	w := strings.Split(s, " ")
	return len(w) == 4 && rankForm.MatchString(w[0]) && rateForm.MatchString(w[1]) && isAmount(w[2]) && isAmount(w[3])
}

// limits are the least and the greatest Num of a kind.
func limits(kind int) (least, most int64) {
	switch kind {
	case fact.Employ:
		return 0, 1
	case fact.Part, fact.Absent:
		return 0, 1000000
	case fact.Sheet:
		return 0, 1440
	case fact.Salary, fact.Enrol, fact.Deduct, fact.Card, fact.Attach:
		return 0, 1 << 50
	case fact.Bonus, fact.Rule:
		return -1 << 50, 1 << 50
	case fact.Grant:
		return 0, 100000
	case fact.Cancel:
		return 1, 4096
	}
	return 0, 0
}

// codeByWords tells whether a kind's Code is as the chapter says.
func codeByWords(kind int, code string) bool {
	switch kind {
	case fact.Sheet:
		return code == "" || isName(code)
	case fact.Absent:
		return absenceForm.MatchString(code)
	case fact.Bonus, fact.Enrol, fact.Deduct, fact.Attach, fact.Rule, fact.Element:
		return isName(code)
	}
	return code == ""
}

// textByWords tells whether a kind's Text is as the chapter says.
func textByWords(kind int, num int64, text string) bool {
	switch kind {
	case fact.Hours:
		return weekForm.MatchString(text)
	case fact.Cost:
		return areWeights(text)
	case fact.Sheet:
		return text == "" || isNumber(text, 0, num)
	case fact.Card, fact.Bank:
		return isName(text)
	case fact.Attach:
		return isOrder(text)
	case fact.Rule, fact.Element:
		return textForm.MatchString(text) && (text != "" || kind == fact.Rule)
	}
	return text == ""
}

// checkByWords is what the chapter says of a fact.
func checkByWords(f fact.Fact) api.Errno {
	if f.Kind < 1 || f.Kind > 18 {
		return api.ErrKind
	}
	least, most := limits(f.Kind)
	switch {
	case isFirms(f.Kind) && f.Person > 0, !isFirms(f.Kind) && f.Person == 0:
		return api.ErrRange
	case f.From < firstDay, f.From > lastDay, f.Kind == fact.Cancel && f.From != 0:
		return api.ErrDay
	case f.To != 0 && !hasDays(f.Kind), f.To != 0 && f.To <= f.From:
		return api.ErrSpan
	case f.To > lastDay+1:
		return api.ErrDay
	case !codeByWords(f.Kind, f.Code):
		return api.ErrName
	case f.Num < least, f.Num > most:
		return api.ErrRange
	case len(f.Text) > 4096:
		return api.ErrLong
	case !textByWords(f.Kind, f.Num, f.Text):
		return api.ErrForm
	}
	return api.OK
}

// parseByWords is what the chapter says of a line.
func parseByWords(s string) (fact.Fact, api.Errno) {
	m := lineForm.FindStringSubmatch(s)
	if m == nil {
		return fact.Fact{}, api.ErrForm
	}
	var f fact.Fact
	for kind, line := range lines() {
		if name, _, _ := strings.Cut(line, " "); name == m[1] {
			f.Kind = kind
		}
	}
	id, err1 := strconv.ParseUint(m[2], 10, 32)
	person, err2 := strconv.ParseUint(m[3], 10, 32)
	from, err3 := time.Parse("2006-01-02", m[4])
	num, err4 := strconv.ParseInt(m[7], 10, 64)
	f.ID, f.Person, f.Num, f.Text = uint32(id), uint32(person), num, strings.TrimPrefix(m[8], " ")
	f.From = api.Day(from.Unix() / 86400)
	if f.Code = m[6]; f.Code == "-" {
		f.Code = ""
	}
	to, err5 := time.Parse("2006-01-02", m[5])
	switch m[5] {
	case "-":
		err5 = nil
	case "end":
		f.To, err5 = lastDay+1, nil
	default:
		f.To = api.Day(to.Unix() / 86400)
		if f.To == 0 || to.Year() < 1900 || to.Year() > 2199 {
			return fact.Fact{}, api.ErrForm
		}
	}
	for _, err := range []error{err1, err2, err3, err4, err5} {
		if err != nil {
			return fact.Fact{}, api.ErrForm
		}
	}
	numbers := fmt.Sprint(id, " ", person, " ", num)
	if f.Kind == 0 || from.Year() < 1900 || from.Year() > 2199 || numbers != m[2]+" "+m[3]+" "+m[7] {
		return fact.Fact{}, api.ErrForm
	}
	if e := checkByWords(f); e != api.OK {
		return fact.Fact{}, e
	}
	return f, api.OK
}

// some picks one of a list.
func some[T any](r *rand.Rand, l ...T) T {
	return l[r.Intn(len(l))]
}

// someFact is a fact of which a few fields are turned to what is at an edge, or belongs to another kind.
func someFact(r *rand.Rand) fact.Fact {
	l := right()[1:]
	f, g := some(r, l...), some(r, l...)
	f.ID = some(r, f.ID, 0, 1, math.MaxUint32)
	least, most := limits(f.Kind)
	for range r.Intn(4) {
		switch r.Intn(8) {
		case 0:
			f.Kind = some(r, f.Kind, f.Kind, g.Kind, 0, 19, -1, math.MaxInt, math.MinInt)
		case 1:
			f.Person = some(r, f.Person, 0, 1, math.MaxUint32)
		case 2:
			f.From = some(r, f.From, 0, -1, 1, firstDay, firstDay-1, lastDay, lastDay+1, math.MinInt, math.MaxInt)
		case 3:
			f.To = some(r, f.To, 0, -1, 1, f.From, f.From+1, f.From-1, firstDay, lastDay, lastDay+1, lastDay+2, math.MinInt, math.MaxInt)
		case 4:
			f.Code = some(r, f.Code, "", g.Code, "-", "a", "A", "a b", "x.y_z-0", "unpaid", "leave", "parental", strings.Repeat("n", 32), strings.Repeat("n", 33))
		case 5:
			f.Num = some(r, least, most, least-1, most+1, g.Num, 0, 1, -1, math.MinInt64, math.MaxInt64)
		case 6:
			f.Text = some(r, "", g.Text, "-", " ", "x", "x\n", "\x7f", "\u00e4", "0", "480", "481", "061", strings.Repeat("n", 32), strings.Repeat("n", 33), strings.Repeat("n", 4096), strings.Repeat("n", 4097))
		case 7:
			f.Text = turned(r, f.Text)
		}
	}
	return f
}

// turned is a text of which a byte is put in, taken out, or made another one.
func turned(r *rand.Rand, s string) string {
	at := r.Intn(len(s) + 1)
	b := string(some(r, []byte(" -:.%0123456789aenxA\x1f\n\x80~")...))
	switch r.Intn(3) {
	case 0:
		return s[:at] + b + s[at:]
	case 1:
		return s[:at] + s[min(at+1, len(s)):]
	}
	return s[:at] + b + s[min(at+1, len(s)):]
}

func TestP8_1ByWords(t *testing.T) {
	r := rand.New(rand.NewSource(81))
	found := map[api.Errno]int{}
	for range 100000 {
		f := someFact(r)
		got, wanted := f.Check(), checkByWords(f)
		found[got]++
		if got != wanted {
			t.Errorf("Check of %+.80v: %d, wanted %d", f, got, wanted)
		}
		s, e := f.Line()
		check(t, "error of Line", e, wanted)
		check(t, "is there a line?", s != "", wanted == api.OK)
	}
	for _, e := range []api.Errno{api.OK, api.ErrKind, api.ErrRange, api.ErrDay, api.ErrSpan, api.ErrName, api.ErrLong, api.ErrForm} {
		if found[e] < 100 {
			t.Errorf("error %d was tried %d times alone", e, found[e])
		}
	}
}

func TestP8_2ByWords(t *testing.T) {
	r := rand.New(rand.NewSource(82))
	read := 0
	for range 100000 {
		s := some(r, lines()[1:]...)
		if f := someFact(r); r.Intn(2) == 0 && f.Check() == api.OK {
			s, _ = f.Line()
		}
		for range r.Intn(3) {
			s = turned(r, s)
		}
		got, e := fact.Parse(s)
		f, wanted := parseByWords(s)
		check(t, fmt.Sprintf("error of Parse %.80q", s), e, wanted)
		check(t, fmt.Sprintf("Parse %.80q", s), got, f)
		if e == api.OK {
			read++
			again, _ := got.Line()
			check(t, "the line of what was read", again, s)
		}
	}
	if read < 20000 {
		t.Errorf("of the lines only %d were right", read)
	}
}

func TestP8_4ThereAndBack(t *testing.T) {
	r := rand.New(rand.NewSource(84))
	for range 50000 {
		f := someFact(r)
		if f.Check() != api.OK {
			continue
		}
		s, e := f.Line()
		check(t, "error of Line", e, api.OK)
		back, e := fact.Parse(s)
		check(t, fmt.Sprintf("error of Parse %.80q", s), e, api.OK)
		check(t, fmt.Sprintf("Parse %.80q", s), back, f)
	}
}
