package month_test

import (
	"fmt"
	"math/rand"
	"slices"
	"strings"
	"testing"

	"wagebook/api"
	"wagebook/book"
	"wagebook/fact"
	"wagebook/month"
	"wagebook/period"
	"wagebook/store"
)

// employed is a person who has 60000.00 a year, from 2024 on.
func employed() []string {
	return []string{"employ 0 1 2024-01-01 - - 1", "salary 0 1 2024-01-01 - - 6000000"}
}

// checkGross fails the test, if a person's gross items are others than were wanted.
func checkGross(t *testing.T, what string, v store.View, p period.Period, wanted string) {
	t.Helper()
	got, e := month.Gross(v, 1, p)
	checkSame(t, "Gross "+what, got, e, items(t, wanted), api.OK)
}

// checkNoGross fails the test, if the error is another one than was wanted, or there are items beside it.
func checkNoGross(t *testing.T, what string, v store.View, p period.Period, wanted api.Errno) {
	t.Helper()
	got, e := month.Gross(v, 1, p)
	check(t, "error of Gross "+what, e, wanted)
	check(t, "items beside it, of Gross "+what, len(got), 0)
}

// checkNone fails the test, if the error of a month is another one than was wanted, or there is something beside it.
func checkNone(t *testing.T, what string, v store.View, c period.Calendar, p period.Period, wanted api.Errno) {
	t.Helper()
	got, e := month.Of(v, 1, c, p)
	checkSame(t, what, got, e, api.Month{}, wanted)
}

func TestP22_1Example(t *testing.T) {
	checkGross(t, "of a salary", told(t, employed()...), january(t), "salary 500000")
	checkGross(t, "with a bonus", told(t, append(employed(), "bonus 0 1 2024-01-15 - x 10000")...), january(t), "salary 500000, x 10000")
	checkGross(t, "with a day unpaid", told(t, append(employed(), "absent 0 1 2024-01-09 2024-01-10 unpaid 0")...), january(t), "absent -21739, salary 500000")
}

func TestP22_1Whole(t *testing.T) {
	v := told(t,
		"employ 0 1 2024-01-01 - - 1",
		"salary 0 1 2024-01-01 - - 6000000",
		"bonus 0 1 2024-02-29 - x 100",
		"enrol 0 1 2024-01-01 - pension 30000",
		"enrol 0 1 2024-02-29 2024-03-01 bike 1000",
		"enrol 0 1 2024-01-01 2024-02-29 car 1000",
		"enrol 0 1 2024-03-01 - home 1000",
		"enrol 0 1 2024-01-01 - nothing 0",
		"enrol 0 2 2024-01-01 - other 5",
		"deduct 0 1 2024-01-01 - z 5",
		"deduct 0 1 2024-01-01 - a 7",
		"deduct 0 1 2024-01-01 - b 9",
		"deduct 0 1 2024-02-01 - b 8",
		"deduct 0 1 2024-02-01 2024-02-20 a 1",
		"card 0 1 2024-01-01 - - 1 late",
		"card 0 1 2024-01-01 - - 120000 wage",
		"card 0 1 2024-01-01 2024-02-29 - 2 none",
		"card 0 2 2024-01-01 - - 3 none",
		"rule 0 0 1970-01-01 - tax.wage 0 0.00:0% 1000.00:20.5%",
		"rule 0 0 1970-01-01 - limit.pension.most 100000",
		"rule 0 0 1970-01-01 - limit.car.yearly 777",
		"rule 0 0 1970-01-01 - limit.bike 5",
		"rule 0 0 1970-01-01 2024-02-29 limit.home.most 5",
		"rule 0 0 1970-01-01 - social.old.worker 93000",
		"rule 0 0 1970-01-01 - social.old.firm 94000",
		"rule 0 0 1970-01-01 - social.old.ceiling 9000000",
		"rule 0 0 2024-02-29 - social.ill.firm 1",
		"rule 0 0 2024-03-01 - social.new.firm 1",
		"attach 0 1 2024-01-01 - loan 500000 1 10% 0.00 1200.00",
		"attach 0 1 2024-01-01 - alimony 0 0 0% 100.01 0.00",
		"attach 0 1 2024-01-01 2024-02-29 over 0 0 0% 100.01 0.00",
		"attach 0 2 2024-01-01 - other 0 0 0% 100.01 0.00",
	)
	c := period.Calendar{Lag: 5}
	got, e := month.Of(v, 1, c, periodAt(t, c, newYear+40))
	checkSame(t, "February", got, e, api.Month{
		Year: 2024, Index: 2, Of: 12,
		Gross:   items(t, "salary 500000, x 100"),
		Before:  items(t, "bike 1000, pension 30000"),
		After:   items(t, "a 7, b 8, z 5"),
		Limits:  []api.Limit{{Code: "bike", Most: 1000000}, {Code: "car", Most: 1000000, Yearly: 777}, {Code: "pension", Most: 100000}},
		Schemes: []api.Scheme{{Code: "ill", Firm: 1}, {Code: "old", Worker: 93000, Firm: 94000, Ceiling: 9000000}},
		Card:    api.Card{Allowance: 120000, Bands: []api.Band{{}, {From: 100000, Rate: 205000}}},
		Orders:  []api.Order{{Code: "alimony", Fixed: 10001}, {Code: "loan", Rank: 1, Rate: 100000, Protect: 120000, Total: 500000}},
	}, api.OK)
	got, e = month.Of(v, 3, c, periodAt(t, c, newYear+40))
	checkSame(t, "February of somebody of whom nothing is told", fmt.Sprint(len(got.Limits), len(got.Schemes), got.Gross, got.Before, got.After, got.Card, got.Orders), e, "3 2 [] [] [] {0 0 []} []", api.OK)
	got, e = month.Of(store.View{}, 0, c, periodAt(t, c, newYear))
	checkSame(t, "January of nobody", got, e, api.Month{Year: 2024, Index: 1, Of: 12}, api.OK)
}

func TestP22_1Card(t *testing.T) {
	for rule, wanted := range map[string]api.Errno{
		"rule 0 0 2024-01-31 - tax.wage 0 0.00:1%":          api.OK,
		"rule 0 0 2024-01-31 - tax.wage 0":                  api.OK, // a table without bands
		"rule 0 0 2024-02-01 - tax.wage 0 0.00:1%":          api.ErrNone,
		"rule 0 0 2024-01-01 2024-01-31 tax.wage 0 0.00:1%": api.ErrNone,
		"rule 0 0 2024-01-01 - tax.wages 0 0.00:1%":         api.ErrNone,
		"rule 0 0 2024-01-01 - wage 0 0.00:1%":              api.ErrNone,
		"rule 0 0 2024-01-01 - tax.wage 0 0.00:1":           api.ErrForm,
		"rule 0 0 2024-01-01 - tax.wage 0 0.01:1%":          api.ErrOrder,
		"rule 0 0 2024-01-01 - tax.wage 0 0.00:101%":        api.ErrRange,
	} {
		got, e := month.Of(told(t, rule, "card 0 1 2024-01-31 - - 7 wage"), 1, months(), january(t))
		check(t, "error by "+rule, e, wanted)
		check(t, "allowance by "+rule, got.Card.Allowance, map[bool]api.Cents{true: 7}[wanted == api.OK])
		got, e = month.Of(told(t, rule, "card 0 1 2024-02-01 - - 7 wage"), 1, months(), january(t)) // it isn't in force yet
		checkSame(t, "without a card, by "+rule, got.Card, e, api.Card{}, api.OK)
	}
	name := strings.Repeat("t", 29) // no rule's name can hold it behind tax.
	checkNone(t, "a long table", told(t, "card 0 1 2024-01-01 - - 7 "+name), months(), january(t), api.ErrNone)
}

// TestP22_1Periods: a period is one of the calendar's in all its fields.
func TestP22_1Periods(t *testing.T) {
	v := told(t, employed()...)
	for _, c := range []period.Calendar{months(), {Kind: period.Biweekly, First: newYear}, {Kind: period.Fourweekly, First: newYear + 3, Lag: 60}} {
		right := periodAt(t, c, newYear+50)
		_, e := month.Of(v, 1, c, right)
		check(t, fmt.Sprint("error of ", right), e, api.OK)
		for i, change := range []func(p *period.Period){
			func(p *period.Period) { p.Year++ },
			func(p *period.Period) { p.Index++ },
			func(p *period.Period) { p.Index = 0 },
			func(p *period.Period) { p.Of-- },
			func(p *period.Period) { p.Pay++ },
			func(p *period.Period) { p.Span.From++ },
			func(p *period.Period) { p.Span.From-- },
			func(p *period.Period) { p.Span.To++ },
			func(p *period.Period) { p.Span = api.Span{From: lowest, To: highest} },
			func(p *period.Period) { p.Span = api.Span{From: highest, To: lowest} },
			func(p *period.Period) { p.Span = api.Span{From: firstDay - 1, To: firstDay + 30} },
			func(p *period.Period) { *p = period.Period{} },
		} {
			p := right
			change(&p)
			checkNone(t, fmt.Sprint("change ", i, " of ", right), v, c, p, api.ErrNone)
		}
		c.Lag = 61
		checkNone(t, "a wrong lag", v, c, right, api.ErrRange)
		checkNone(t, "a wrong lag, and no period", v, c, period.Period{}, api.ErrRange)
		c.First = lastDay + 1
		checkNone(t, "a wrong first day", v, c, right, api.ErrDay)
		c.Kind = 3
		checkNone(t, "a wrong kind", v, c, right, api.ErrKind)
	}
	c := period.Calendar{Kind: period.Biweekly, First: newYear}
	checkNone(t, "a month, by a calendar of two weeks", v, c, january(t), api.ErrNone)
	checkNone(t, "days that are no whole period", v, c, period.Period{Span: api.Span{From: lastDay, To: lastDay + 1}}, api.ErrNone)
}

// fault is what is told so that a month has an error.
type fault struct {
	wanted api.Errno
	lines  []string
}

// numbered is a line for each of so many numbers, which it has at a #.
func numbered(n int, line string) []string {
	var l []string
	for i := range n {
		l = append(l, strings.ReplaceAll(line, "#", fmt.Sprint(100+i)))
	}
	return l
}

// faults are those of a month, in the order in which they are looked for.
func faults() []fault {
	return []fault{
		{api.ErrOverflow, []string{"bonus 0 1 2024-01-05 - x 1125899906842624", "bonus 0 1 2024-01-09 - x 1"}},
		{api.ErrRange, []string{"sheet 0 1 2024-02-04 - a 1440", "sheet 0 1 2024-02-04 - b 1"}},
		{api.ErrRange, []string{"rule 0 0 2024-01-01 - hours.day 1441"}},
		{api.ErrRange, []string{"rule 0 0 2024-01-01 - over.rate -1"}},
		{api.ErrRange, []string{"rule 0 0 2024-01-01 - night.rate 10000001"}},
		{api.ErrOverflow, []string{"salary 0 1 2024-01-31 - - 1125899906842624", "hours 0 1 2024-01-31 - - 0 1 0 0 0 0 0 0"}},
		{api.ErrName, []string{"element 0 0 2024-01-01 - a-a 0 1+"}},
		{api.ErrForm, []string{"element 0 0 2024-01-01 - a.b 0 1+"}},
		{api.ErrName, []string{"element 0 0 2024-01-01 - b-b 0 1+"}},
		{api.ErrUnknown, []string{"element 0 0 2024-01-01 - c 0 both(1)"}},
		{api.ErrOverflow, []string{"salary 0 1 2024-01-31 - - 100000000000001"}},
		{api.ErrTwice, []string{"element 0 0 2024-01-01 - salary 0 1"}},
		{api.ErrRing, []string{"element 0 0 2024-01-01 - d 0 d"}},
		{api.ErrUnknown, []string{"element 0 0 2024-01-01 - e 0 nothing"}},
		{api.ErrOverflow, []string{"bonus 0 1 2024-01-05 - f 1125899906842624", "element 0 0 2024-01-01 - f 0 0.01"}},
		{api.ErrMany, numbered(65, "bonus 0 1 2024-01-05 - g# 1")},
		{api.ErrMany, numbered(65, "enrol 0 1 2024-01-05 - e# 1")},
		{api.ErrMany, numbered(65, "deduct 0 1 2024-01-05 - d# 1")},
		{api.ErrMany, numbered(65, "rule 0 0 2024-01-05 - limit.l# 1")},
		{api.ErrRange, []string{"rule 0 0 2024-01-05 - limit.l.most -1"}},
		{api.ErrMany, numbered(65, "rule 0 0 2024-01-05 - social.s# 1")},
		{api.ErrRange, []string{"rule 0 0 2024-01-05 - social.s.firm 1000001"}},
		{api.ErrNone, []string{"card 0 1 2024-01-05 - - 0 none"}},
		{api.ErrForm, []string{"card 0 1 2024-01-05 - - 0 wage", "rule 0 0 2024-01-05 - tax.wage 0 0.00:1% "}},
		{api.ErrMany, numbered(65, "attach 0 1 2024-01-05 - a# 0 0 0% 0.00 0.00")},
	}
}

// TestP22_1Order: of two faults that one is told that is looked for first, whichever was told first. (The two cards take each other's place.)
func TestP22_1Order(t *testing.T) {
	l := faults()
	for i, first := range l {
		checkNone(t, fmt.Sprint("fault ", i), told(t, append(employed(), first.lines...)...), months(), january(t), first.wanted)
		for j, then := range l[i+1:] {
			if first.wanted == api.ErrNone && then.wanted == api.ErrForm {
				continue
			}
			for _, lines := range [][]string{slices.Concat(employed(), first.lines, then.lines), slices.Concat(employed(), then.lines, first.lines)} {
				if first.wanted == api.ErrOverflow && strings.HasPrefix(first.lines[0], "salary") && strings.HasPrefix(then.lines[0], "salary") {
					continue
				}
				checkNone(t, fmt.Sprint("faults ", i, " and ", i+1+j), told(t, lines...), months(), january(t), first.wanted)
			}
		}
	}
}

func TestP22_1Year(t *testing.T) {
	r := rand.New(rand.NewSource(2212))
	for _, c := range []period.Calendar{months(), {Kind: period.Biweekly, First: newYear, Lag: 3}, {Kind: period.Fourweekly, First: newYear + 5}} {
		for range 30 {
			w := someFacts(r, newYear+30)
			v := known(t, w...)
			got, e := month.Year(v, 1, c, 2024)
			var wanted []api.Month
			wantedE := api.OK
			periods, _ := c.Year(2024)
			for _, p := range periods {
				m, e := words{w, 1, p}.month()
				if e != api.OK {
					wanted, wantedE = nil, e
					break
				}
				wanted = append(wanted, m)
			}
			checkSame(t, fmt.Sprintf("Year by %v, of %.3000s", c, fmt.Sprint(w)), got, e, wanted, wantedE)
		}
	}
	v := told(t, append(employed(), "sheet 0 1 2024-12-31 - a 1440", "sheet 0 1 2024-12-31 - b 1")...)
	for year, wanted := range map[int]api.Errno{1899: api.ErrRange, 1900: api.OK, 2023: api.OK, 2024: api.ErrRange, 2025: api.ErrRange, 2026: api.OK, 2199: api.OK, 2200: api.ErrRange, int(lowest): api.ErrRange, int(highest): api.ErrRange} {
		l, e := month.Year(v, 1, months(), year) // the week of 2024's last day is that of 2025's first one
		check(t, fmt.Sprint("error of ", year), e, wanted)
		check(t, fmt.Sprint("months of ", year), len(l), map[bool]int{true: 12}[wanted == api.OK])
	}
	for c, wanted := range map[period.Calendar]api.Errno{{Kind: 3}: api.ErrKind, {First: lastDay + 1}: api.ErrDay, {Lag: -1}: api.ErrRange} {
		l, e := month.Year(v, 1, c, 2200)
		checkSame(t, fmt.Sprint("Year by ", c), l, e, []api.Month{}, wanted)
	}
}

func TestP22_1ByWords(t *testing.T) {
	r := rand.New(rand.NewSource(2211))
	seen := map[api.Errno]int{}
	for range 3000 {
		first := pick(r, newYear, newYear+28, newYear+59, 0, -10, firstDay, firstDay+20, lastDay-20, lastDay-5)
		w := someFacts(r, first)
		v := known(t, w...)
		c := someCalendar(r)
		p, e := c.Find(min(max(first+api.Day(r.Intn(20)-5), firstDay), lastDay))
		if e != api.OK { // near the calendar's ends
			continue
		}
		for person := range uint32(3) {
			got, e := month.Of(v, person, c, p)
			wanted, wantedE := words{w, person, p}.month()
			checkSame(t, fmt.Sprintf("Of %d in %v by %v, of %.3000s", person, p, c, fmt.Sprint(w)), got, e, wanted, wantedE)
			seen[e]++
		}
	}
	for _, e := range []api.Errno{api.OK, api.ErrRange, api.ErrForm, api.ErrNone, api.ErrTwice, api.ErrOverflow, api.ErrName, api.ErrRing, api.ErrUnknown} {
		check(t, fmt.Sprint("error ", e, " is come to"), seen[e] > 5, true)
	}
}

func TestP22_2Schemes(t *testing.T) {
	rule := func(n int, name string, num int64) store.Known {
		return store.Known{N: n, Fact: fact.Fact{Kind: fact.Rule, Code: name, Num: num}}
	}
	for _, x := range []struct {
		rules  []store.Known
		wanted []api.Scheme
		e      api.Errno
	}{
		{nil, nil, api.OK},
		{[]store.Known{rule(1, "social", 5), rule(2, "social.", 5), rule(3, "Social.x", 5), rule(4, "limit.x", 5), rule(5, "social..worker", -5)}, nil, api.OK},
		{[]store.Known{rule(1, "social.b", -5), rule(2, "social.a.x", -5), rule(3, "social.c.workers", -5), rule(4, "social.d.worker.x", -5)}, []api.Scheme{{Code: "a"}, {Code: "b"}, {Code: "c"}, {Code: "d"}}, api.OK},
		{[]store.Known{rule(1, "social.b.worker", 1), rule(2, "social.b.firm", 2), rule(3, "social.b.ceiling", 3)}, []api.Scheme{{Code: "b", Worker: 1, Firm: 2, Ceiling: 3}}, api.OK},
		{[]store.Known{rule(1, "social.b.worker", one), rule(2, "social.b.firm", one), rule(3, "social.b.ceiling", most)}, []api.Scheme{{Code: "b", Worker: 1000000, Firm: 1000000, Ceiling: 1 << 50}}, api.OK},
		{[]store.Known{rule(1, "social.b.worker", one+1)}, nil, api.ErrRange},
		{[]store.Known{rule(1, "social.b.worker", -1)}, nil, api.ErrRange},
		{[]store.Known{rule(1, "social.b.firm", one+1)}, nil, api.ErrRange},
		{[]store.Known{rule(1, "social.b.firm", -1)}, nil, api.ErrRange},
		{[]store.Known{rule(1, "social.b.ceiling", most+1)}, nil, api.ErrRange},
		{[]store.Known{rule(1, "social.b.ceiling", -1)}, nil, api.ErrRange},
		{[]store.Known{rule(1, "social.a.worker", 5), rule(2, "social.b.worker", -1)}, nil, api.ErrRange},
	} {
		got, e := month.Schemes(book.Of(x.rules...), 0)
		checkSame(t, fmt.Sprint("Schemes of ", x.rules), got, e, x.wanted, x.e)
	}
	var l []store.Known
	for i := range 64 {
		l = append(l, rule(2*i+1, fmt.Sprint("social.s", i, ".worker"), int64(i)), rule(2*i+2, fmt.Sprint("social.s", i, ".firm"), 5))
	}
	got, e := month.Schemes(book.Of(l...), 0)
	check(t, "error of as many as there may be", e, api.OK)
	check(t, "as many as there may be", len(got), 64)
	got, e = month.Schemes(book.Of(append(l, rule(999, "social.z.worker", -1))...), 0)
	checkSame(t, "one more, which is wrong", got, e, []api.Scheme{}, api.ErrMany)
	got, e = month.Schemes(book.Book{}, highest)
	checkSame(t, "the zero book", got, e, []api.Scheme{}, api.OK)
	v := told(t, "rule 0 0 2024-01-01 2024-02-01 social.a.firm 1", "rule 0 0 2024-02-01 - social.a.firm 2", "rule 0 0 2024-02-01 - social.b.firm 3")
	for d, wanted := range map[api.Day][]api.Scheme{newYear - 1: nil, newYear: {{Code: "a", Firm: 1}}, newYear + 30: {{Code: "a", Firm: 1}}, newYear + 31: {{Code: "a", Firm: 2}, {Code: "b", Firm: 3}}, highest: {{Code: "a", Firm: 2}, {Code: "b", Firm: 3}}, lowest: nil} {
		got, e := month.Schemes(bookOf(v), d)
		checkSame(t, fmt.Sprint("Schemes on ", d), got, e, wanted, api.OK)
	}
}

// TestP22_1Limits: Most is a part, Yearly an amount; what isn't told is without a limit.
func TestP22_1Limits(t *testing.T) {
	for lines, wanted := range map[string]string{
		"":                       "[]",
		"limit 5":                "[]",
		"limit. 5":               "[]",
		"limit..most -1":         "[]",
		"limit.a 5":              "[{a 1000000 0}]",
		"limit.a.least -5":       "[{a 1000000 0}]",
		"limit.a.most 0":         "[{a 0 0}]",
		"limit.a.most 1000000":   "[{a 1000000 0}]",
		"limit.a.yearly 0":       "[{a 1000000 0}]",
		"limit.a.yearly 7":       "[{a 1000000 7}]",
		"limit.a.most 5,limit.b": "[{a 5 0} {b 1000000 0}]",
		"limit.b.most 5,limit.a.most 6,limit.b.yearly 1125899906842624": "[{a 6 0} {b 5 1125899906842624}]",
		"limit.a.most -1":                      "",
		"limit.a.most 1000001":                 "",
		"limit.a.yearly -1":                    "",
		"limit.a.most 5,limit.b.most 1000001":  "",
		"limit.a.yearly 5,limit.b.yearly -100": "",
	} {
		var rules []string
		for _, each := range strings.Split(lines, ",") {
			name, number, _ := strings.Cut(each+" 0", " ")
			if lines != "" {
				rules = append(rules, "rule 0 0 2024-01-31 - "+name+" "+strings.Fields(number)[0])
			}
		}
		got, e := month.Of(told(t, rules...), 1, months(), january(t))
		if wanted == "" {
			checkSame(t, "month with "+lines, got, e, api.Month{}, api.ErrRange)
			continue
		}
		checkSame(t, "limits of "+lines, fmt.Sprint(got.Limits), e, wanted, api.OK)
	}
	rules := numbered(64, "rule 0 0 2024-01-31 - limit.l#.most 5")
	got, e := month.Of(told(t, append(rules, "rule 0 0 2024-01-31 - limit.l101.yearly 5")...), 1, months(), january(t))
	check(t, "error of as many as there may be", e, api.OK)
	check(t, "as many as there may be", len(got.Limits), 64)
	checkNone(t, "one more, which is wrong", told(t, append(rules, "rule 0 0 2024-01-31 - limit.m.yearly -5")...), months(), january(t), api.ErrMany)
}

// TestP22_1Many: as many deductions of each kind as there may be; those of 0 are none.
func TestP22_1Many(t *testing.T) {
	for _, kind := range []string{"enrol", "deduct"} {
		lines := append(numbered(64, kind+" 0 1 2024-01-31 - a# 5"), kind+" 0 1 2024-01-31 - z 0")
		got, e := month.Of(told(t, lines...), 1, months(), january(t))
		check(t, "error of "+kind, e, api.OK)
		check(t, "deductions of "+kind, len(got.Before)+len(got.After), 64)
		checkNone(t, "one more of "+kind, told(t, append(lines, kind+" 0 1 2024-01-31 - z 1")...), months(), january(t), api.ErrMany)
	}
}

func TestP22_2Orders(t *testing.T) {
	v := told(t,
		"attach 0 1 2024-01-31 - a 0 10 0% 0.00 0.00",
		"attach 0 1 2024-01-01 - b 7 9 100% 0.01 11258999068426.24",
		"attach 0 1 2024-01-01 - d 1125899906842624 9 0.0001% 1.00 2.00",
		"attach 0 1 2024-01-01 - c 0 9 12.5% 0.00 0.00",
		"attach 0 1 2024-01-01 - e 1 0 0% 0.00 0.00",
		"attach 0 1 2024-01-01 - e 2 99 0% 0.00 0.00",
		"attach 0 1 2024-01-01 2024-01-31 e 3 5 0% 0.00 0.00",
		"attach 0 1 2024-02-01 - b 4 5 0% 0.00 0.00",
		"attach 0 2 2024-01-01 - f 5 5 0% 0.00 0.00",
	)
	wanted := []api.Order{
		{Code: "b", Rank: 9, Rate: 1000000, Fixed: 1, Protect: 1 << 50, Total: 7},
		{Code: "c", Rank: 9, Rate: 125000},
		{Code: "d", Rank: 9, Rate: 1, Fixed: 100, Protect: 200, Total: 1 << 50},
		{Code: "a", Rank: 10},
		{Code: "e", Rank: 99, Total: 2},
	}
	got, e := month.Orders(v, 1, january(t))
	checkSame(t, "Orders", got, e, wanted, api.OK)
	got, e = month.Orders(v, 1, period.Period{Span: api.Span{From: newYear + 30, To: newYear + 31}})
	checkSame(t, "Orders of a day", got, e, wanted, api.OK)
	got, e = month.Orders(v, 3, january(t))
	checkSame(t, "Orders of nobody", got, e, []api.Order{}, api.OK)
	lines := numbered(64, "attach 0 1 2024-01-31 - a# 0 0 0% 0.00 0.00")
	got, e = month.Orders(told(t, lines...), 1, january(t))
	check(t, "error of as many as there may be", e, api.OK)
	check(t, "as many as there may be", len(got), 64)
	lines = append(lines, "attach 0 1 2024-01-31 - b 0 0 0% 0.00 0.00")
	got, e = month.Orders(told(t, lines...), 1, january(t))
	checkSame(t, "one more", got, e, []api.Order{}, api.ErrMany)
	got, e = month.Orders(told(t, lines...), 1, period.Period{})
	checkSame(t, "one more, of no days", got, e, []api.Order{}, api.ErrSpan)
}

// TestP22_2Spans: of any period that has from 1 to 366 days, all in the calendar.
func TestP22_2Spans(t *testing.T) {
	v := told(t, append(employed(), "bonus 0 1 2024-01-01 - x 1125899906842624", "bonus 0 1 2024-01-01 - x 1", "attach 0 1 1900-01-01 - a 7 0 0% 0.00 0.00")...)
	for s, wanted := range map[api.Span]api.Errno{
		{}:                                     api.ErrSpan,
		{From: newYear, To: newYear}:           api.ErrSpan,
		{From: newYear, To: newYear - 1}:       api.ErrSpan,
		{From: newYear, To: newYear + 1}:       api.OK,
		{From: newYear, To: newYear + 366}:     api.OK,
		{From: newYear, To: newYear + 367}:     api.ErrSpan,
		{From: firstDay, To: firstDay + 366}:   api.OK,
		{From: firstDay - 1, To: firstDay + 1}: api.ErrSpan,
		{From: firstDay - 1, To: firstDay}:     api.ErrSpan,
		{From: lastDay, To: lastDay + 1}:       api.OK,
		{From: lastDay, To: lastDay + 2}:       api.ErrSpan,
		{From: lastDay + 1, To: lastDay + 2}:   api.ErrSpan,
		{From: lowest, To: highest}:            api.ErrSpan,
		{From: highest, To: lowest}:            api.ErrSpan,
		{From: lowest, To: lowest + 1}:         api.ErrSpan,
		{From: highest - 1, To: highest}:       api.ErrSpan,
		{From: 0, To: highest}:                 api.ErrSpan,
		{From: lowest, To: 0}:                  api.ErrSpan,
	} {
		p := period.Period{Span: s}
		l, e := month.Orders(v, 1, p)
		check(t, fmt.Sprint("error of Orders of ", s), e, wanted)
		check(t, fmt.Sprint("Orders of ", s), len(l), map[bool]int{true: 1}[wanted == api.OK])
		got, e := month.Gross(v, 2, p)
		checkSame(t, fmt.Sprint("Gross of ", s), got, e, []api.Item{}, wanted)
		if s.From != newYear { // else the bonuses don't fit
			continue
		}
		if wanted == api.OK {
			wanted = api.ErrOverflow
		}
		checkNoGross(t, fmt.Sprint("of ", s), v, p, wanted)
	}
}

func TestP22_2ByWords(t *testing.T) {
	r := rand.New(rand.NewSource(2221))
	seen := map[api.Errno]int{}
	for range 2500 {
		first := pick(r, newYear, newYear+28, newYear+59, 0, -10, firstDay, firstDay+20, lastDay-20, lastDay-5)
		w := someFacts(r, first)
		v := known(t, w...)
		m := words{w, uint32(r.Intn(3)), somePeriod(r, first)}
		what := fmt.Sprintf("%d in %+v, of %.3000s", m.person, m.p, fmt.Sprint(w))
		got, e := month.Gross(v, m.person, m.p)
		wanted, wantedE := m.gross()
		checkSame(t, "Gross of "+what, got, e, wanted, wantedE)
		seen[e]++
		orders, e := month.Orders(v, m.person, m.p)
		wantedOrders, wantedE := m.orders()
		checkSame(t, "Orders of "+what, orders, e, wantedOrders, wantedE)
		m.p.Span.To = first + api.Day(r.Intn(50)-20)
		schemes, e := month.Schemes(bookOf(v), m.last())
		wantedSchemes, wantedE := m.schemes()
		checkSame(t, "Schemes of "+what, schemes, e, wantedSchemes, wantedE)
	}
	for _, e := range []api.Errno{api.OK, api.ErrSpan, api.ErrRange, api.ErrZero, api.ErrForm, api.ErrTwice, api.ErrOverflow, api.ErrName, api.ErrRing, api.ErrUnknown} {
		check(t, fmt.Sprint("error ", e, " is come to"), seen[e] > 0, true)
	}
}

// TestP22_3Numbers: what is told of others, and what counts for nothing, only gives the facts other numbers.
func TestP22_3Numbers(t *testing.T) {
	r := rand.New(rand.NewSource(2231))
	for range 300 {
		w := someFacts(r, newYear+20)
		var more []fact.Fact
		places := map[int64]int64{}
		for i, f := range w {
			for range r.Intn(3) {
				other := someOwn(r)
				other.Person, other.From = 3, newYear
				if r.Intn(3) == 0 {
					other = fact.Fact{Person: 1, Kind: fact.Bank, From: newYear, Text: "iban"}
				}
				more = append(more, other)
			}
			if f.Kind == fact.Cancel {
				f.Num = places[f.Num]
			}
			more = append(more, f)
			places[int64(i+1)] = int64(len(more))
		}
		p := periodAt(t, months(), newYear+20)
		got, e := month.Of(known(t, more...), 1, months(), p)
		wanted, wantedE := month.Of(known(t, w...), 1, months(), p)
		checkSame(t, fmt.Sprintf("by other numbers %.3000s", fmt.Sprint(w)), got, e, wanted, wantedE)
	}
}

// TestP22_3Later: facts that cover no day up to the Sunday of the period's last week change nothing; those that do may.
func TestP22_3Later(t *testing.T) {
	r := rand.New(rand.NewSource(2232))
	changes := 0
	for range 400 {
		w := someFacts(r, newYear+20)
		c := someCalendar(r)
		p := periodAt(t, c, newYear+20)
		sunday := p.Span.To + 5 - api.Day(weekday(p.Span.To-1))
		before, beforeE := month.Of(known(t, w...), 1, c, p)
		later, sooner := slices.Clone(w), slices.Clone(w)
		for range 20 {
			f := someFact(r, sunday+21)
			f.From = max(f.From, sunday+1)
			if f.To != 0 {
				f.To = f.From + 5
			}
			later = append(later, f)
			f.From = sunday - 10
			if f.To != 0 {
				f.To = sunday + 5
			}
			sooner = append(sooner, f)
		}
		got, e := month.Of(known(t, later...), 1, c, p)
		checkSame(t, fmt.Sprintf("later than %v %.3000s", p, fmt.Sprint(later)), got, e, before, beforeE)
		if got, e := month.Of(known(t, sooner...), 1, c, p); e != beforeE || fmt.Sprint(got) != fmt.Sprint(before) {
			changes++
		}
	}
	check(t, "what was told of the period changes it", changes > 200, true)
}

// TestMemory: two answers share nothing.
func TestMemory(t *testing.T) {
	v := told(t, append(employed(), "enrol 0 1 2024-01-01 - a 5", "deduct 0 1 2024-01-01 - a 5", "card 0 1 2024-01-01 - - 5 wage", "rule 0 0 2024-01-01 - tax.wage 0 0.00:1%",
		"rule 0 0 2024-01-01 - limit.a 5", "rule 0 0 2024-01-01 - social.a 5", "attach 0 1 2024-01-01 - a 7 0 0% 0.00 0.00")...)
	m, _ := month.Of(v, 1, months(), january(t))
	kept := fmt.Sprint(m)
	m.Gross[0].Code, m.Before[0].Code, m.After[0].Code, m.Limits[0].Code, m.Schemes[0].Code, m.Card.Bands[0].Rate, m.Orders[0].Code = "x", "x", "x", "x", "x", 7, "x"
	again, _ := month.Of(v, 1, months(), january(t))
	check(t, "what was told again", fmt.Sprint(again), kept)
}
