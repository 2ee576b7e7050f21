package fact

import (
	"strings"

	"wagebook/api"
	"wagebook/cents"
	"wagebook/rate"
	"wagebook/week"
	"wagebook/word"
)

const (
	one         = int64(rate.One)
	dayMinutes  = 1440
	mostGranted = 100000
	mostWeight  = 1000000
	lastRank    = 99
)

// asked is what a kind asks of its facts: whether they are the firm's, and have days; which Code, Num and Text they may have. A Text may hang on the Num, so that it is asked of the whole fact.
type asked struct {
	name        string
	firm, days  bool
	code        func(code string) bool
	least, most int64
	text        func(f Fact) bool
}

// isKind tells whether there is such a kind.
func isKind(kind int) bool {
	return Employ <= kind && kind <= Cancel
}

// kinds is what each kind asks, by its number.
func kinds() [Cancel + 1]asked {
	return [Cancel + 1]asked{
		Employ:  {name: "employ", days: true, code: isEmpty, most: 1, text: hasNoText},
		Salary:  {name: "salary", days: true, code: isEmpty, most: api.MaxCents, text: hasNoText},
		Part:    {name: "part", days: true, code: isEmpty, most: one, text: hasNoText},
		Hours:   {name: "hours", days: true, code: isEmpty, text: hasWeek},
		Cost:    {name: "cost", days: true, code: isEmpty, text: hasWeights},
		Sheet:   {name: "sheet", code: isNameOrEmpty, most: dayMinutes, text: hasNight},
		Absent:  {name: "absent", days: true, code: isAbsence, most: one, text: hasNoText},
		Bonus:   {name: "bonus", code: word.IsName, least: -api.MaxCents, most: api.MaxCents, text: hasNoText},
		Enrol:   {name: "enrol", days: true, code: word.IsName, most: api.MaxCents, text: hasNoText},
		Deduct:  {name: "deduct", days: true, code: word.IsName, most: api.MaxCents, text: hasNoText},
		Card:    {name: "card", days: true, code: isEmpty, most: api.MaxCents, text: hasName},
		Attach:  {name: "attach", days: true, code: word.IsName, most: api.MaxCents, text: hasOrder},
		Bank:    {name: "bank", days: true, code: isEmpty, text: hasName},
		Rule:    {name: "rule", firm: true, days: true, code: word.IsName, least: -api.MaxCents, most: api.MaxCents, text: hasPlainText},
		Element: {name: "element", firm: true, days: true, code: word.IsName, text: hasSomeText},
		Holiday: {name: "holiday", firm: true, code: isEmpty, text: hasNoText},
		Grant:   {name: "grant", code: isEmpty, most: mostGranted, text: hasNoText},
		Cancel:  {name: "cancel", firm: true, code: isEmpty, least: 1, most: api.MaxFacts, text: hasNoText},
	}
}

// isEmpty tells whether there is no code.
func isEmpty(code string) bool {
	return code == ""
}

// isNameOrEmpty tells whether a code may be a sheet's.
func isNameOrEmpty(code string) bool {
	return code == "" || word.IsName(code)
}

// isAbsence tells whether a code is one of an absence.
func isAbsence(code string) bool {
	return code == "sick" || code == "leave" || code == "unpaid" || code == "parental"
}

// hasNoText tells whether there is no text.
func hasNoText(f Fact) bool {
	return f.Text == ""
}

// hasWeek tells whether the text is a week's.
func hasWeek(f Fact) bool {
	_, e := week.Parse(f.Text)
	return e == api.OK
}

// hasWeights tells whether the text is one of weights: names, none twice, each with its number.
func hasWeights(f Fact) bool {
	words := strings.SplitN(f.Text, " ", api.MaxItems+1)
	if len(words) > api.MaxItems {
		return false
	}
	seen := map[string]bool{}
	for _, each := range words {
		name, number, _ := strings.Cut(each, ":") // without a : the number is empty, which is none
		weight, e := word.Number(number, mostWeight)
		if !word.IsName(name) || seen[name] || e != api.OK || weight == 0 {
			return false
		}
		seen[name] = true
	}
	return true
}

// hasNight tells whether the text is empty, or how many of a sheet's minutes were by night. It is asked when the Num was found right.
func hasNight(f Fact) bool {
	if f.Text == "" {
		return true
	}
	_, e := word.Number(f.Text, uint64(f.Num))
	return e == api.OK
}

// hasName tells whether the text is a name.
func hasName(f Fact) bool {
	return word.IsName(f.Text)
}

// hasOrder tells whether the text is an order's: its rank, its rate, and two amounts.
func hasOrder(f Fact) bool {
	words := strings.Split(f.Text, " ")
	return len(words) == 4 && isRank(words[0]) && isPart(words[1]) && isAmount(words[2]) && isAmount(words[3])
}

// isRank tells whether s is an order's rank.
func isRank(s string) bool {
	_, e := word.Number(s, lastRank)
	return e == api.OK
}

// isPart tells whether s is the text of a rate from nothing to all.
func isPart(s string) bool {
	part, e := rate.Parse(s)
	return e == api.OK && 0 <= part && part <= rate.One
}

// isAmount tells whether s is the text of an amount that isn't below 0.
func isAmount(s string) bool {
	amount, e := cents.Parse(s)
	return e == api.OK && amount >= 0
}

// hasPlainText tells whether the text is made of bytes that can be shown in a line.
func hasPlainText(f Fact) bool {
	for i := 0; i < len(f.Text); i++ {
		if f.Text[i] < ' ' || f.Text[i] > '~' {
			return false
		}
	}
	return true
}

// hasSomeText tells whether there is a text, and it can be shown in a line.
func hasSomeText(f Fact) bool {
	return f.Text != "" && hasPlainText(f)
}
