package month_test

import (
	"fmt"
	"maps"
	"math"
	"math/big"
	"slices"
	"strconv"
	"strings"
	"testing"
	"time"

	"wagebook/api"
	"wagebook/band"
	"wagebook/book"
	"wagebook/cents"
	"wagebook/eval"
	"wagebook/expr"
	"wagebook/fact"
	"wagebook/lex"
	"wagebook/period"
	"wagebook/rate"
	"wagebook/store"
)

const (
	lowest   = api.Day(math.MinInt)
	highest  = api.Day(math.MaxInt)
	firstDay = api.Day(-25567)
	lastDay  = api.Day(84005)
	newYear  = api.Day(19723) // 2024-01-01, a Monday
	most     = int64(1) << 50
	one      = int64(1000000)
	office   = "480 480 480 480 480 0 0"
)

// check fails the test, if something is another thing than was wanted.
func check[T comparable](t *testing.T, what string, got, wanted T) {
	t.Helper()
	if got != wanted {
		t.Errorf("%s: %v, wanted %v", what, got, wanted)
	}
}

// checkSame fails the test, if what is told of something, without telling nil from empty, is another thing than was wanted.
func checkSame(t *testing.T, what string, got any, e api.Errno, wanted any, wantedE api.Errno) {
	t.Helper()
	check(t, "error of "+what, e, wantedE)
	check(t, what, fmt.Sprintf("%+v", got), fmt.Sprintf("%+v", wanted))
}

// items are told as they stand in a text: "absent -21739, salary 500000".
func items(t *testing.T, s string) []api.Item {
	t.Helper()
	var l []api.Item
	for _, each := range strings.Split(s, ", ") {
		if s == "" {
			break
		}
		code, number, _ := strings.Cut(each, " ")
		n, err := strconv.ParseInt(number, 10, 64)
		if err != nil {
			t.Fatalf("items %q: %v", s, err)
		}
		l = append(l, api.Item{Code: code, Cents: api.Cents(n)})
	}
	return l
}

// parsed is the facts of these lines.
func parsed(t *testing.T, lines ...string) []fact.Fact {
	t.Helper()
	var l []fact.Fact
	for _, line := range lines {
		f, e := fact.Parse(line)
		if e != api.OK {
			t.Fatalf("line %q: error %d", line, e)
		}
		l = append(l, f)
	}
	return l
}

// known is all that is known of a store of these facts.
func known(t *testing.T, l ...fact.Fact) store.View {
	t.Helper()
	s, _, e := store.Store{}.Import(l...)
	if e != api.OK {
		t.Fatalf("Import of %+v: error %d", l, e)
	}
	return s.At(s.Len())
}

// told is all that is known of a store of the facts of these lines.
func told(t *testing.T, lines ...string) store.View {
	t.Helper()
	return known(t, parsed(t, lines...)...)
}

// months is the calendar of months.
func months() period.Calendar { return period.Calendar{} }

// periodAt is the period of a calendar that has a day.
func periodAt(t *testing.T, c period.Calendar, d api.Day) period.Period {
	t.Helper()
	p, e := c.Find(d)
	if e != api.OK {
		t.Fatalf("period of %d by %v: error %d", d, c, e)
	}
	return p
}

// january is 2024/01, of 31 days, of which 23 are worked.
func january(t *testing.T) period.Period {
	t.Helper()
	return periodAt(t, months(), newYear)
}

// words is what was told, of whom, and of which period, told by the chapter's words: fact by fact, and day by day.
type words struct {
	w      []fact.Fact
	person uint32
	p      period.Period
}

// last is the period's last day.
func (m words) last() api.Day { return m.p.Span.To - 1 }

// facts are those of a person and a kind that aren't taken back, by their numbers.
func (m words) facts(person uint32, kind int) []fact.Fact {
	var l []fact.Fact
	for i, f := range m.w {
		isTaken := slices.ContainsFunc(m.w, func(c fact.Fact) bool { return c.Kind == fact.Cancel && c.Num == int64(i+1) })
		if f.Person == person && f.Kind == kind && !isTaken {
			l = append(l, f)
		}
	}
	return l
}

// inForce is the fact of a person, a kind and a code that is in force on a day.
func (m words) inForce(person uint32, kind int, code string, d api.Day) (fact.Fact, bool) {
	for _, f := range slices.Backward(m.facts(person, kind)) {
		if f.Code == code && f.From <= d && (f.To == 0 || d < f.To) {
			return f, true
		}
	}
	return fact.Fact{}, false
}

// allInForce are the facts in force on the last day, by rising codes.
func (m words) allInForce(person uint32, kind int) []fact.Fact {
	byCode := map[string]fact.Fact{}
	for _, f := range m.facts(person, kind) {
		if in, ok := m.inForce(person, kind, f.Code, m.last()); ok {
			byCode[f.Code] = in
		}
	}
	var l []fact.Fact
	for _, code := range slices.Sorted(maps.Keys(byCode)) {
		l = append(l, byCode[code])
	}
	return l
}

// rule is a rule's number, or else another one.
func (m words) rule(name string, otherwise int64) int64 {
	if f, ok := m.inForce(0, fact.Rule, name, m.last()); ok {
		return f.Num
	}
	return otherwise
}

// under is what stands under a prefix.
func (m words) under(prefix string) []string {
	var l []string
	for _, f := range m.allInForce(0, fact.Rule) {
		if rest, ok := strings.CutPrefix(f.Code, prefix); ok {
			if text := strings.Split(rest, ".")[0]; text != "" && !slices.Contains(l, text) {
				l = append(l, text)
			}
		}
	}
	slices.Sort(l)
	return l
}

// agreed is a day's terms.
type agreed struct {
	employed     bool
	salary, part int64
	hours, cost  string
}

// terms are those on a day.
func (m words) terms(d api.Day) agreed {
	a := agreed{part: one, hours: office, cost: "firm:1"}
	if f, ok := m.inForce(m.person, fact.Employ, "", d); ok {
		a.employed = f.Num == 1
	}
	if f, ok := m.inForce(m.person, fact.Salary, "", d); ok {
		a.salary = f.Num
	}
	if f, ok := m.inForce(m.person, fact.Part, "", d); ok {
		a.part = f.Num
	}
	if f, ok := m.inForce(m.person, fact.Hours, "", d); ok {
		a.hours = f.Text
	}
	if f, ok := m.inForce(m.person, fact.Cost, "", d); ok {
		a.cost = f.Text
	}
	return a
}

// week is the minutes of the weekdays of the last day's terms, Monday first.
func (m words) week() [7]int64 {
	var w [7]int64
	for i, number := range strings.Fields(m.terms(m.last()).hours) {
		w[i], _ = strconv.ParseInt(number, 10, 64)
	}
	return w
}

// weekday is 0 for a Monday, by another calendar than the program's.
func weekday(d api.Day) int { return int(time.Unix(int64(d)*86400, 0).UTC().Weekday()+6) % 7 }

// minutes is the pattern's of a day.
func (m words) minutes(d api.Day) int64 {
	if slices.ContainsFunc(m.facts(0, fact.Holiday), func(f fact.Fact) bool { return f.From == d }) {
		return 0
	}
	return m.week()[weekday(d)]
}

// nearest is the product of some numbers, divided by another one's, to the nearest, a half away from 0, whatever is in between.
func nearest(den int64, factors ...int64) *big.Int {
	product := big.NewInt(2)
	for _, n := range factors {
		product.Mul(product, big.NewInt(n))
	}
	sign := int64(product.Sign())
	product.Abs(product).Add(product, big.NewInt(den))
	product.Quo(product, new(big.Int).Mul(big.NewInt(2), big.NewInt(den)))
	return product.Mul(product, big.NewInt(sign))
}

// fits tells whether an amount does.
func fits(c *big.Int) bool { return c.CmpAbs(big.NewInt(most)) <= 0 }

// between is the part of c from one place up to another one.
func between(c, from, to, of int64) int64 {
	return nearest(of, c, to).Int64() - nearest(of, c, from).Int64()
}

// wrongSpan tells whether the period's days aren't right.
func (m words) wrongSpan() bool {
	s := m.p.Span
	return s.From < firstDay || s.From > lastDay || s.To <= s.From || s.To > lastDay+1 || s.To-s.From > 366
}

// bonuses are those of the period.
func (m words) bonuses() (map[string]int64, api.Errno) {
	sums := map[string]*big.Int{}
	for _, f := range m.facts(m.person, fact.Bonus) {
		if m.p.Span.From <= f.From && f.From < m.p.Span.To {
			if sums[f.Code] == nil {
				sums[f.Code] = new(big.Int)
			}
			sums[f.Code].Add(sums[f.Code], big.NewInt(f.Num))
		}
	}
	l := map[string]int64{}
	for code, sum := range sums {
		if !fits(sum) {
			return nil, api.ErrOverflow
		}
		l[code] = sum.Int64()
	}
	return l, api.OK
}

// salary is what the days on which the person is employed come to, day by day.
func (m words) salary() (int64, api.Errno) {
	n := int64(m.p.Span.To - m.p.Span.From)
	pieces := 0
	for d := m.p.Span.From; d <= m.last(); d++ {
		if a := m.terms(d); a.employed && (d == m.p.Span.From || a != m.terms(d-1)) {
			pieces++
		}
	}
	index, of := int64(m.p.Index), int64(m.p.Of)
	switch {
	case pieces > 64:
		return 0, api.ErrMany
	case of == 0:
		return 0, api.ErrZero
	case of < 0 || of > most || index < 1 || index > of:
		return 0, api.ErrRange
	}
	sum := new(big.Int)
	for d := m.p.Span.From; d <= m.last(); d++ {
		if a := m.terms(d); a.employed {
			amount := between(nearest(one, a.salary, a.part).Int64(), index-1, index, of)
			at := int64(d - m.p.Span.From)
			sum.Add(sum, big.NewInt(between(amount, at, at+1, n)))
		}
	}
	if !fits(sum) {
		return 0, api.ErrOverflow
	}
	return sum.Int64(), api.OK
}

// absent is what is lost of a salary, turned.
func (m words) absent(salary int64) int64 {
	minutes := int64(0)
	lost := map[int64]int64{}
	for d := m.p.Span.From; d <= m.last(); d++ {
		if !m.terms(d).employed {
			continue
		}
		minutes += m.minutes(d)
		var in fact.Fact
		for _, f := range m.facts(m.person, fact.Absent) {
			if f.From <= d && (f.To == 0 || d < f.To) {
				in = f
			}
		}
		if in.Kind == fact.Absent {
			lost[in.Num] += m.minutes(d)
		}
	}
	sum := int64(0)
	for paid, n := range lost {
		if minutes > 0 {
			sum += nearest(minutes*one, salary, n, one-paid).Int64()
		}
	}
	return -sum
}

// worked is the minutes of a day, and those by night.
func (m words) worked(d api.Day) (int64, int64) {
	latest := map[string]fact.Fact{}
	for _, f := range m.facts(m.person, fact.Sheet) {
		if f.From == d {
			latest[f.Code] = f
		}
	}
	minutes, night := int64(0), int64(0)
	for _, f := range latest {
		minutes += f.Num
		byNight, _ := strconv.ParseInt("0"+f.Text, 10, 64)
		night += byNight
	}
	return minutes, night
}

// hours are plain, over and by night, minute by minute.
func (m words) hours() (plain, over, night int64, e api.Errno) {
	first, last := m.p.Span.From, m.last()
	monday := first - api.Day(weekday(first))
	sunday := last + api.Day(6-weekday(last))
	for d := monday; d <= sunday; d++ {
		if minutes, _ := m.worked(d); minutes > 1440 {
			return 0, 0, 0, api.ErrRange
		}
	}
	day, week := m.rule("hours.day", 1440), m.rule("hours.week", 10080)
	if day < 0 || day > 1440 || week < 0 || week > 10080 {
		return 0, 0, 0, api.ErrRange
	}
	left := int64(0)
	for d := monday; d <= last; d++ {
		if weekday(d) == 0 {
			left = 0
		}
		minutes, byNight := m.worked(d)
		for i := range minutes {
			isOver := i >= day || left >= week
			if i < day {
				left++
			}
			if d >= first && isOver {
				over++
			} else if d >= first {
				plain++
			}
		}
		if d >= first {
			night += byNight
		}
	}
	return plain, over, night, api.OK
}

// above is what is paid for hours over, and for those by night.
func (m words) above(minutes, byNight int64) (over, night int64, e api.Errno) {
	overRate, nightRate := m.rule("over.rate", 1500000), m.rule("night.rate", 0)
	if overRate < 0 || overRate > 10000000 || nightRate < 0 || nightRate > 10000000 {
		return 0, 0, api.ErrRange
	}
	weekly := int64(0)
	for _, n := range m.week() {
		weekly += n
	}
	if weekly == 0 {
		return 0, 0, api.OK
	}
	hour := nearest(52*weekly, m.terms(m.last()).salary, 60)
	if !fits(hour) {
		return 0, 0, api.ErrOverflow
	}
	overPay := nearest(60*one, hour.Int64(), minutes, overRate)
	nightPay := nearest(60*one, hour.Int64(), byNight, nightRate)
	if !fits(overPay) || !fits(nightPay) {
		return 0, 0, api.ErrOverflow
	}
	return overPay.Int64(), nightPay.Int64(), api.OK
}

// elements are what the formulas come to, in an environment of amounts and whole numbers, to which the rest is put.
func (m words) elements(amounts, wholes map[string]int64) (map[string]int64, api.Errno) {
	var formulas []eval.Rule
	for _, f := range m.allInForce(0, fact.Element) {
		if !lex.IsName(f.Code) {
			return nil, api.ErrName
		}
		tree, _, e := expr.Parse(f.Text)
		if e != api.OK {
			return nil, e
		}
		formulas = append(formulas, eval.Rule{Name: f.Code, Tree: tree})
	}
	env := eval.Env{"part": m.terms(m.last()).part}
	for name, c := range amounts {
		if c > 100000000000000 || c < -100000000000000 {
			return nil, api.ErrOverflow
		}
		env[name] = c * 10000
	}
	for name, n := range wholes {
		if n <= 1000000000000 {
			env[name] = n * one
		}
	}
	for _, f := range m.allInForce(0, fact.Rule) {
		if name := "rule:" + f.Code; lex.IsName(name) {
			env[name] = f.Num
		}
	}
	values, e := eval.All(env, formulas...)
	if e != api.OK {
		return nil, e
	}
	l := map[string]int64{}
	for _, each := range formulas {
		if !strings.HasPrefix(each.Name, "calc.") {
			l[each.Name] = nearest(10000, values[each.Name]).Int64()
		}
	}
	return l, api.OK
}

// gross is the gross items.
func (m words) gross() ([]api.Item, api.Errno) {
	if m.wrongSpan() {
		return nil, api.ErrSpan
	}
	sums, e := m.bonuses()
	if e != api.OK {
		return nil, e
	}
	isThere := false
	for d := m.p.Span.From; d <= m.last(); d++ {
		isThere = isThere || m.terms(d).employed
	}
	if isThere {
		salary, e := m.salary()
		if e != api.OK {
			return nil, e
		}
		plain, minutes, byNight, e := m.hours()
		if e != api.OK {
			return nil, e
		}
		over, night, e := m.above(minutes, byNight)
		if e != api.OK {
			return nil, e
		}
		amounts := map[string]int64{"salary": salary, "absent": m.absent(salary), "over": over, "night": night, "yearly": m.terms(m.last()).salary}
		wholes := map[string]int64{"minutes.plain": plain, "minutes.over": minutes, "minutes.night": byNight, "index": int64(m.p.Index), "of": int64(m.p.Of)}
		elements, e := m.elements(amounts, wholes)
		if e != api.OK {
			return nil, e
		}
		delete(amounts, "yearly")
		for _, more := range []map[string]int64{amounts, elements} {
			for code, c := range more {
				sums[code] += c
				if !fits(big.NewInt(sums[code])) {
					return nil, api.ErrOverflow
				}
			}
		}
	}
	var l []api.Item
	for _, code := range slices.Sorted(maps.Keys(sums)) {
		if sums[code] != 0 {
			l = append(l, api.Item{Code: code, Cents: api.Cents(sums[code])})
		}
	}
	if len(l) > 64 {
		return nil, api.ErrMany
	}
	return l, api.OK
}

// deductions are those of a kind.
func (m words) deductions(kind int) ([]api.Item, api.Errno) {
	var l []api.Item
	for _, f := range m.allInForce(m.person, kind) {
		if f.Num != 0 {
			l = append(l, api.Item{Code: f.Code, Cents: api.Cents(f.Num)})
		}
	}
	if len(l) > 64 {
		return nil, api.ErrMany
	}
	return l, api.OK
}

// within tells whether numbers are from 0 to another one.
func within(limit int64, l ...int64) bool { return slices.Min(l) >= 0 && slices.Max(l) <= limit }

// limits are those of deductions.
func (m words) limits() ([]api.Limit, api.Errno) {
	texts := m.under("limit.")
	if len(texts) > 64 {
		return nil, api.ErrMany
	}
	var l []api.Limit
	for _, text := range texts {
		part, yearly := m.rule("limit."+text+".most", one), m.rule("limit."+text+".yearly", 0)
		if !within(one, part) || !within(most, yearly) {
			return nil, api.ErrRange
		}
		l = append(l, api.Limit{Code: text, Most: api.Rate(part), Yearly: api.Cents(yearly)})
	}
	return l, api.OK
}

// schemes are the contributions.
func (m words) schemes() ([]api.Scheme, api.Errno) {
	texts := m.under("social.")
	if len(texts) > 64 {
		return nil, api.ErrMany
	}
	var l []api.Scheme
	for _, text := range texts {
		worker, firm, ceiling := m.rule("social."+text+".worker", 0), m.rule("social."+text+".firm", 0), m.rule("social."+text+".ceiling", 0)
		if !within(one, worker, firm) || !within(most, ceiling) {
			return nil, api.ErrRange
		}
		l = append(l, api.Scheme{Code: text, Worker: api.Rate(worker), Firm: api.Rate(firm), Ceiling: api.Cents(ceiling)})
	}
	return l, api.OK
}

// card is the tax card.
func (m words) card() (api.Card, api.Errno) {
	f, ok := m.inForce(m.person, fact.Card, "", m.last())
	if !ok {
		return api.Card{}, api.OK
	}
	table, ok := m.inForce(0, fact.Rule, "tax."+f.Text, m.last())
	if !ok {
		return api.Card{}, api.ErrNone
	}
	bands, e := band.Parse(table.Text)
	if e != api.OK {
		return api.Card{}, e
	}
	return api.Card{Allowance: api.Cents(f.Num), Bands: bands}, api.OK
}

// orders are the attachments: rank by rank, of each those by rising codes.
func (m words) orders() ([]api.Order, api.Errno) {
	if m.wrongSpan() {
		return nil, api.ErrSpan
	}
	var l []api.Order
	facts := m.allInForce(m.person, fact.Attach)
	for rank := range 100 {
		for _, f := range facts {
			fields := strings.Fields(f.Text)
			if fields[0] == fmt.Sprint(rank) {
				part, _ := rate.Parse(fields[1])
				fixed, _ := cents.Parse(fields[2])
				protect, _ := cents.Parse(fields[3])
				l = append(l, api.Order{Code: f.Code, Rank: rank, Rate: part, Fixed: fixed, Protect: protect, Total: api.Cents(f.Num)})
			}
		}
	}
	if len(l) > 64 {
		return nil, api.ErrMany
	}
	return l, api.OK
}

// month is the whole, of one of the calendar's periods.
func (m words) month() (api.Month, api.Errno) {
	x := api.Month{Year: m.p.Year, Index: m.p.Index, Of: m.p.Of}
	errors := make([]api.Errno, 7)
	x.Gross, errors[0] = m.gross()
	x.Before, errors[1] = m.deductions(fact.Enrol)
	x.After, errors[2] = m.deductions(fact.Deduct)
	x.Limits, errors[3] = m.limits()
	x.Schemes, errors[4] = m.schemes()
	x.Card, errors[5] = m.card()
	x.Orders, errors[6] = m.orders()
	for _, e := range errors {
		if e != api.OK {
			return api.Month{}, e
		}
	}
	return x, api.OK
}

// bookOf is the book of a view.
func bookOf(v store.View) book.Book { return book.Of(v.Facts(0, fact.Rule)...) }
