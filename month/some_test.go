package month_test

import (
	"fmt"
	"math/rand"
	"slices"
	"strings"

	"wagebook/api"
	"wagebook/fact"
	"wagebook/period"
)

// pick is one of some things.
func pick[T any](r *rand.Rand, l ...T) T { return l[r.Intn(len(l))] }

// rarely is one of the odd things, once in a while, else one of the others.
func rarely[T any](r *rand.Rand, odd, others []T) T {
	if r.Intn(30) == 0 {
		return pick(r, odd...)
	}
	return pick(r, others...)
}

// someRule is a rule, mostly one with a right number.
func someRule(r *rand.Rand) fact.Fact {
	name := pick(r, "hours.day", "hours.week", "over.rate", "night.rate", "meal", "a-b", "z", "z1.long-name.of27.bytes_yes", "z1.long_name.of27.bytes_yes", "z1.long_name.of28x.bytes_yes",
		"limit.pension.most", "limit.pension.yearly", "limit.bike", "limit.bike.most", "limit.x-y.yearly", "limit.", "limit..most", "limit",
		"social.old.worker", "social.old.firm", "social.old.ceiling", "social.ill.worker", "social.ill.firm.x", "social.o-k", "social.", "tax.wage", "tax.side", "tax.wage")
	f := fact.Fact{Kind: fact.Rule, Code: name, Num: int64(r.Intn(1000001))}
	odd := []int64{-1, -most, most, 10000001, 1000001, 10081}
	switch {
	case name == "hours.day":
		f.Num = rarely(r, odd, []int64{480, 420, 0, 600, 1440})
	case name == "hours.week":
		f.Num = rarely(r, odd, []int64{2400, 1800, 0, 10080})
	case strings.HasSuffix(name, ".rate"):
		f.Num = rarely(r, odd, []int64{0, 250000, 1250000, 10000000})
	case strings.HasPrefix(name, "tax."):
		f.Text = rarely(r, []string{"0.00", "1.00:0%", "0.00:101%"}, []string{"", "0.00:20%", "0.00:0% 1000.00:20% 5000.00:42%"})
	default:
		f.Num = rarely(r, odd, []int64{f.Num, 0, 1, 1000000})
	}
	return f
}

// someElement is a formula.
func someElement(r *rand.Rand) fact.Fact {
	code := rarely(r, []string{"salary", "of", "a-b", "1x", "yearly", "minutes.plain"}, []string{"meal", "bike", "calc.day", "calc.", "calc", "x", "minutes.all"})
	text := rarely(r, []string{"nothing", "meal", "1+", "least(1)", "99999999999*99999999999", "x+1", "yearly*yearly*yearly"},
		[]string{"12.34", "salary*0.01", "absent+over+night", "yearly*part*0.001", "if(less(minutes.plain,60),0,1)", "minutes.over*0.01+minutes.night*0.02", "index*100+of", "0-0.005", "0.005", "0.0149", "0-salary*0.0001"})
	if r.Intn(3) == 0 {
		text = pick(r, "rule:meal*1000", "rule:z", "rule:z1.long_name.of27.bytes_yes", "calc.day*20", "calc.day*20")
	}
	return fact.Fact{Kind: fact.Element, Code: code, Text: text}
}

// someOwn is a person's fact.
func someOwn(r *rand.Rand) fact.Fact {
	few := int64(r.Intn(9000000))
	kind := pick(r, fact.Employ, fact.Employ, fact.Salary, fact.Salary, fact.Part, fact.Hours, fact.Cost, fact.Sheet, fact.Sheet, fact.Sheet, fact.Absent, fact.Absent, fact.Bonus, fact.Bonus, fact.Enrol, fact.Deduct, fact.Card, fact.Attach, fact.Bank, fact.Grant)
	f := fact.Fact{Person: 1 + uint32(r.Intn(2)), Kind: kind}
	switch kind {
	case fact.Employ:
		f.Num = pick[int64](r, 0, 1, 1, 1, 1)
	case fact.Salary:
		f.Num = rarely(r, []int64{most, 100000000000000, 100000000000001}, []int64{few, few, 6000000, 0})
	case fact.Part:
		f.Num = pick(r, one, one/2, 333333, 0, few%one)
	case fact.Hours:
		f.Text = pick(r, office, "0 0 0 0 0 0 0", "1 0 0 0 0 0 0", "1440 1440 1440 1440 1440 1440 1440", "300 0 511 0 480 60 7")
	case fact.Cost:
		f.Text = pick(r, "a:1", "b:2 c:1")
	case fact.Sheet:
		f.Code, f.Num = pick(r, "", "a", "b"), int64(r.Intn(700))
		if r.Intn(30) == 0 {
			f.Num = 1440
		}
		if r.Intn(2) == 0 {
			f.Text = fmt.Sprint(r.Intn(int(f.Num) + 1))
		}
	case fact.Absent:
		f.Code, f.Num = pick(r, "sick", "leave", "unpaid", "parental"), pick(r, 0, one/4, one/4, one/2, one, few%one)
	case fact.Bonus:
		f.Code = pick(r, "x", "y", "y.z", "salary", "absent", "over", "night", "meal", "a-b")
		f.Num = rarely(r, []int64{most, -most, most - 1}, []int64{few, -few, 100, 0})
	case fact.Enrol, fact.Deduct:
		f.Code, f.Num = pick(r, "pension", "bike", "x-y"), pick(r, few, few, 0, most)
	case fact.Card:
		f.Num, f.Text = few, rarely(r, []string{"none", "long-name-of-32-bytes-is-the-most"[:32]}, []string{"wage", "side"})
	case fact.Attach:
		f.Code, f.Num = pick(r, "loan", "alimony", "a-b", "b", "c"), pick(r, few, 0, most)
		f.Text = fmt.Sprintf("%d %s %s %s", pick(r, 0, 1, 1, 2, 10, 99), pick(r, "0%", "10%", "12.5%", "100%", "0.0001%"), pick(r, "0.00", "100.00", "11258999068426.24"), pick(r, "0.00", "1200.01"))
	case fact.Bank:
		f.Text = "iban"
	case fact.Grant:
		f.Num = 100
	}
	return f
}

// someFact is a fact of days not far from a first one.
func someFact(r *rand.Rand, first api.Day) fact.Fact {
	f := someOwn(r)
	switch r.Intn(10) {
	case 0, 1:
		f = someRule(r)
	case 2:
		f = someElement(r)
	case 3:
		f = fact.Fact{Kind: fact.Holiday}
	}
	f.From = first + api.Day(r.Intn(60)-20)
	hasNoDays := slices.Contains([]int{fact.Sheet, fact.Bonus, fact.Holiday, fact.Grant}, f.Kind)
	if !hasNoDays && r.Intn(3) == 0 {
		f.To = f.From + 1 + api.Day(r.Intn(40))
	}
	if !hasNoDays && r.Intn(2) == 0 { // so that more is in force
		f.From -= 20
	}
	return f
}

// someFacts are facts, and Cancels, mostly enough to have two persons employed.
func someFacts(r *rand.Rand, first api.Day) []fact.Fact {
	var w []fact.Fact
	taken := map[int64]bool{}
	tell := func(f fact.Fact) {
		if f.Check() == api.OK { // near the calendar's ends, and around 1970, some aren't
			w = append(w, f)
		}
	}
	for person := range uint32(2) {
		if r.Intn(4) > 0 {
			tell(fact.Fact{Person: person + 1, Kind: fact.Employ, From: first + api.Day(r.Intn(10)-5), Num: 1})
			tell(fact.Fact{Person: person + 1, Kind: fact.Salary, From: max(first-40, firstDay), Num: int64(r.Intn(9000000))})
		}
	}
	for _, name := range []string{"tax.wage", "tax.side"} {
		tell(fact.Fact{Kind: fact.Rule, From: max(first-40, firstDay), Code: name, Text: "0.00:1%"})
	}
	tell(fact.Fact{Kind: fact.Rule, From: max(first-40, firstDay), Code: "meal", Num: 5000})
	tell(fact.Fact{Kind: fact.Element, From: max(first-40, firstDay), Code: "calc.day", Text: "rule:meal*1000"})
	for range r.Intn(50) {
		n := int64(1 + r.Intn(60))
		if r.Intn(12) == 0 && n <= int64(len(w)) && w[n-1].Kind != fact.Cancel && !taken[n] {
			taken[n] = true
			tell(fact.Fact{Kind: fact.Cancel, Num: n})
			continue
		}
		tell(someFact(r, first))
	}
	return w
}

// someCalendar is a calendar of any kind.
func someCalendar(r *rand.Rand) period.Calendar {
	return period.Calendar{Kind: r.Intn(3), First: newYear + api.Day(r.Intn(30)), Lag: r.Intn(3)}
}

// somePeriod is a period that may be no calendar's.
func somePeriod(r *rand.Rand, first api.Day) period.Period {
	from := first + api.Day(r.Intn(9)-4)
	p := period.Period{Year: 2024, Index: 1, Of: pick(r, 1, 12, 26), Span: api.Span{From: from, To: from + api.Day(pick(r, 1, 2, 7, 14, 28, 31, 60, 366, 367, 0, -1))}}
	p.Index += r.Intn(p.Of)
	switch r.Intn(25) {
	case 0:
		p.Index = r.Intn(4) - 2
	case 1:
		p.Of = r.Intn(4) - 2
	case 2:
		p.Of = pick(r, 1<<50, 1<<50+1, 1000000000000, 1000000000001)
	case 3:
		p.Span = pick(r, api.Span{From: lowest, To: highest}, api.Span{From: highest, To: lowest}, api.Span{From: 0, To: highest}, api.Span{From: lowest, To: 0}, api.Span{From: lastDay, To: lastDay + 1}, api.Span{From: lastDay, To: lastDay + 2}, api.Span{From: firstDay - 1, To: firstDay + 1}, api.Span{From: firstDay, To: firstDay + 1})
	}
	return p
}
