package year_test

import (
	"fmt"
	"math"
	"math/rand"
	"slices"
	"strings"
	"testing"

	"wagebook/api"
	"wagebook/attach"
	"wagebook/before"
	"wagebook/cents"
	"wagebook/social"
	"wagebook/tax"
	"wagebook/year"
)

const (
	most    = api.Cents(1) << 50
	lowest  = math.MinInt64
	highest = math.MaxInt64
)

// check fails the test, if something is another thing than was wanted.
func check[T comparable](t *testing.T, what string, got, wanted T) {
	t.Helper()
	if got != wanted {
		t.Errorf("%s: %v, wanted %v", what, got, wanted)
	}
}

// checkSame fails the test, if a slip is another one than was wanted.
func checkSame(t *testing.T, what string, got, wanted api.Slip) {
	t.Helper()
	if got.Year != wanted.Year || got.Index != wanted.Index || !slices.Equal(got.Lines, wanted.Lines) {
		t.Errorf("%s: %v, wanted %v", what, got, wanted)
	}
}

// checkAll fails the test, if slips are others than were wanted.
func checkAll(t *testing.T, what string, got, wanted []api.Slip) {
	t.Helper()
	check(t, "number of slips, "+what, len(got), len(wanted))
	for i := range min(len(got), len(wanted)) {
		checkSame(t, fmt.Sprint("slip ", i, ", ", what), got[i], wanted[i])
	}
}

// items are some of these codes and amounts, by turns.
func items(l ...any) []api.Item {
	var told []api.Item
	for i := 0; i < len(l); i += 2 {
		told = append(told, api.Item{Code: l[i].(string), Cents: api.Cents(l[i+1].(int))})
	}
	return told
}

// lines are some of these parts, codes and amounts, by turns.
func lines(l ...any) []api.Line {
	var told []api.Line
	for i := 0; i < len(l); i += 3 {
		told = append(told, api.Line{Part: l[i].(int), Code: l[i+1].(string), Cents: api.Cents(l[i+2].(int))})
	}
	return told
}

// at is a Month without anything in it.
func at(year, index, of int) api.Month {
	return api.Month{Year: year, Index: index, Of: of}
}

// numbered are so many items of different codes, a cent each.
func numbered(n int) []api.Item {
	var l []api.Item
	for i := range n {
		l = append(l, api.Item{Code: fmt.Sprint("n", i), Cents: 1})
	}
	return l
}

// fold is the state behind Months, which are right.
func fold(t *testing.T, l ...api.Month) year.State {
	t.Helper()
	_, s, e := year.Fold(l...)
	check(t, "error of Fold", e, api.OK)
	return s
}

// plain is what a state has, told openly.
type plain struct {
	last   api.Month // its Year, Index and Of alone
	isLast bool
	before map[string]api.Cents
	social map[string]social.Sums
	tax    tax.Sums
	orders attach.Paid
}

// isName is as chapter 8 says.
func isName(s string) bool {
	return len(s) >= 1 && len(s) <= 32 && s != "-" && strings.Trim(s, "abcdefghijklmnopqrstuvwxyz0123456789._-") == ""
}

// isBetween tells whether a number is from one to another.
func isBetween(n, least, greatest int64) bool { return least <= n && n <= greatest }

// listByWords is what is wrong with a Month's gross, or with what is wanted behind tax.
func listByWords(l []api.Item, isAfter bool) api.Errno {
	if len(l) > 64 {
		return api.ErrMany
	}
	for _, i := range l {
		if !isName(i.Code) {
			return api.ErrName
		}
		if !isBetween(int64(i.Cents), -1<<50, 1<<50) || isAfter && i.Cents < 0 {
			return api.ErrRange
		}
	}
	return api.OK
}

// isRightBehind is as the chapter says, of a Month whose numbers are within their limits.
func (p plain) isRightBehind(m api.Month) bool {
	if !p.isLast {
		return true
	}
	if m.Year == p.last.Year && m.Of == p.last.Of {
		return m.Index == p.last.Index+1
	}
	return p.last.Index == p.last.Of && m.Year == p.last.Year+1 && m.Index == 1
}

// checkByWords is what is wrong with a Month ahead of all reckoning.
func (p plain) checkByWords(m api.Month) api.Errno {
	if !isBetween(int64(m.Year), 1900, 2199) || !isBetween(int64(m.Of), 1, 400) || !isBetween(int64(m.Index), 1, int64(m.Of)) {
		return api.ErrRange
	}
	if !p.isRightBehind(m) {
		return api.ErrOrder
	}
	if e := listByWords(m.Gross, false); e != api.OK {
		return e
	}
	return listByWords(m.After, true)
}

// sumOf is what items come to, within 64 bits.
func sumOf(l []api.Item) api.Cents {
	var sum api.Cents
	for _, i := range l {
		sum += i.Cents
	}
	return sum
}

// slipByWords are the lines of all parts' items: each item put onto the line of its part and code, and those of 0 left out then.
func slipByWords(m api.Month, parts ...[]api.Item) (api.Slip, api.Errno) {
	type place struct {
		part int
		code string
	}
	all := map[place]api.Cents{}
	for part, l := range parts {
		for _, i := range l {
			all[place{part, i.Code}] += i.Cents
		}
	}
	s := api.Slip{Year: m.Year, Index: m.Index}
	for at, c := range all {
		if !isBetween(int64(c), -1<<50, 1<<50) {
			return api.Slip{}, api.ErrOverflow
		}
		if c != 0 {
			s.Lines = append(s.Lines, api.Line{Part: at.part, Code: at.code, Cents: c})
		}
	}
	slices.SortFunc(s.Lines, func(a, b api.Line) int {
		if a.Part != b.Part {
			return a.Part - b.Part
		}
		return strings.Compare(a.Code, b.Code)
	})
	return s, api.OK
}

// step is what Step is to tell, by the layers below.
func (p plain) step(m api.Month) (plain, api.Slip, api.Errno) {
	if e := p.checkByWords(m); e != api.OK {
		return p, api.Slip{}, e
	}
	now := plain{last: at(m.Year, m.Index, m.Of), isLast: true, orders: p.orders}
	if m.Year == p.last.Year {
		now.before, now.social, now.tax = p.before, p.social, p.tax
	}
	var e [6]api.Errno
	var amounts []api.Cents
	for _, i := range m.Gross {
		amounts = append(amounts, i.Cents)
	}
	gross, sumE := cents.Sum(amounts...)
	e[0] = sumE
	ahead, sums, takeE := before.Take(gross, now.before, m.Before, m.Limits...)
	now.before, e[1] = sums, takeE
	insured, workers, firms, allE := social.All(now.social, gross, m.Schemes...)
	now.social, e[2] = insured, allE
	taxed, held, taxE := tax.Step(now.tax, gross-sumOf(ahead), m.Index, m.Of, m.Card)
	now.tax, e[3] = taxed, taxE
	behind, left := before.After(gross-sumOf(ahead)-sumOf(workers)-held, m.After)
	ordered, paid, orderE := attach.Take(left, now.orders, m.Orders...)
	now.orders, e[4] = paid, orderE
	told, lineE := slipByWords(m, m.Gross, ahead, workers, items("tax", int(held)), behind, ordered, firms)
	e[5] = lineE
	for _, first := range e {
		if first != api.OK {
			return p, api.Slip{}, first
		}
	}
	return now, told, api.OK
}

// text is what Text is to tell.
func (p plain) text() string {
	if !p.isLast {
		return ""
	}
	var l []string // sorted by codes among those of one word
	for code, c := range p.before {
		if c != 0 {
			l = append(l, fmt.Sprintln("before", code, cents.Text(c)))
		}
	}
	for code, c := range p.social {
		if c.Base != 0 || c.Insured != 0 || c.Worker != 0 || c.Firm != 0 {
			l = append(l, fmt.Sprintln("social", code, cents.Text(c.Base), cents.Text(c.Insured), cents.Text(c.Worker), cents.Text(c.Firm)))
		}
	}
	for code, c := range p.orders {
		if c != 0 {
			l = append(l, fmt.Sprintln("order", code, cents.Text(c)))
		}
	}
	if p.tax.Base != 0 || p.tax.Tax != 0 {
		l = append(l, fmt.Sprintln("tax", "", cents.Text(p.tax.Base), cents.Text(p.tax.Tax)))
	}
	slices.SortFunc(l, func(a, b string) int {
		f, g := strings.Split(a, " "), strings.Split(b, " ")
		byWord := strings.Index("before social tax order", f[0]) - strings.Index("before social tax order", g[0])
		if byWord != 0 {
			return byWord
		}
		return strings.Compare(f[1], g[1])
	})
	t := fmt.Sprintln("last", p.last.Year, p.last.Index, p.last.Of) + strings.Join(l, "")
	return strings.Replace(t, "tax  ", "tax ", 1)
}

// someAmount is one from 0 on, below so many bits; if it may be wrong, rarely one at the limits or beyond them.
func someAmount(r *rand.Rand, bits int, mayBeWrong bool) api.Cents {
	if mayBeWrong && r.Intn(150) == 0 {
		return []api.Cents{lowest, highest, -1, most + 1, -most - 1, most, -most}[r.Intn(7)]
	}
	return api.Cents(r.Int63n(1 << (1 + r.Intn(bits))))
}

// someCode is one of some; if it may be wrong, rarely no name.
func someCode(r *rand.Rand, mayBeWrong bool) string {
	if mayBeWrong && r.Intn(200) == 0 {
		return []string{"", "-", "A", "a b", "a:", "\xff", strings.Repeat("x", 33)}[r.Intn(7)]
	}
	return []string{"a", "b", "aa", "a-", "a.", "a_", "a0"}[r.Intn(7)]
}

// someItems are some.
func someItems(r *rand.Rand, bits int, mayBeWrong bool) []api.Item {
	var l []api.Item
	for range r.Intn(5) {
		l = append(l, api.Item{Code: someCode(r, mayBeWrong), Cents: someAmount(r, bits, mayBeWrong)})
	}
	return l
}

// someRate is one from nothing to all.
func someRate(r *rand.Rand) api.Rate {
	return []api.Rate{0, 1000000, 100000, api.Rate(r.Intn(1000001)), api.Rate(r.Intn(30) * 10000)}[r.Intn(5)]
}

// isNew tells whether a code isn't among those that were, and puts it there; if it may be wrong, rarely also of one that is.
func isNew(r *rand.Rand, were map[string]bool, code string, mayBeWrong bool) bool {
	was := were[code]
	were[code] = true
	return !was || mayBeWrong && r.Intn(100) == 0
}

// someMonth is one of a place, of amounts below so many bits; if it may be wrong, rarely with something that isn't right.
func someMonth(r *rand.Rand, place api.Month, bits int, mayBeWrong bool) api.Month {
	m := place
	m.Gross = someItems(r, bits, mayBeWrong)
	for i := range m.Gross {
		if r.Intn(5) == 0 {
			m.Gross[i].Cents = -m.Gross[i].Cents
		}
	}
	m.Before, m.After = someItems(r, bits-2, mayBeWrong), someItems(r, bits-2, mayBeWrong)
	limits, schemes, orders := map[string]bool{}, map[string]bool{}, map[string]bool{}
	for range r.Intn(4) {
		if code := someCode(r, mayBeWrong); isNew(r, limits, code, mayBeWrong) {
			m.Limits = append(m.Limits, api.Limit{Code: code, Most: someRate(r), Yearly: someAmount(r, bits, mayBeWrong)})
		}
		if code := someCode(r, mayBeWrong); isNew(r, schemes, code, mayBeWrong) {
			m.Schemes = append(m.Schemes, api.Scheme{Code: code, Worker: someRate(r) / 4, Firm: someRate(r), Ceiling: someAmount(r, bits+3, mayBeWrong)})
		}
		if code := someCode(r, mayBeWrong); isNew(r, orders, code, mayBeWrong) {
			m.Orders = append(m.Orders, api.Order{Code: code, Rank: r.Intn(3), Rate: someRate(r), Fixed: someAmount(r, bits, mayBeWrong) * api.Cents(r.Intn(2)), Protect: someAmount(r, bits, mayBeWrong), Total: someAmount(r, bits+2, mayBeWrong) * api.Cents(r.Intn(2))})
		}
	}
	m.Card = someCard(r, bits, mayBeWrong)
	return m
}

// someCard is one of up to three bands.
func someCard(r *rand.Rand, bits int, mayBeWrong bool) api.Card {
	c := api.Card{Allowance: someAmount(r, bits, mayBeWrong), Extra: someAmount(r, bits/2, mayBeWrong) * api.Cents(r.Intn(2))}
	var from api.Cents
	for range r.Intn(4) {
		c.Bands = append(c.Bands, api.Band{From: from, Rate: someRate(r) / 2})
		from += 1 + someAmount(r, bits, false)
		if mayBeWrong && r.Intn(100) == 0 {
			from = 0
		}
	}
	return c
}

// next is the place right behind a Month's.
func next(r *rand.Rand, m api.Month) api.Month {
	if m.Index < m.Of {
		return at(m.Year, m.Index+1, m.Of)
	}
	return at(m.Year+1, 1, 1+r.Intn(5))
}

// someMonths are right ones, one behind the other.
func someMonths(r *rand.Rand, n, bits int) []api.Month {
	of := 1 + r.Intn(5)
	place := at(2020, 1+r.Intn(of), of)
	var l []api.Month
	for range n {
		l = append(l, someMonth(r, place, bits, false))
		place = next(r, place)
	}
	return l
}

// clone is a Month that shares no list with another one.
func clone(m api.Month) api.Month {
	m.Gross, m.Before, m.After = slices.Clone(m.Gross), slices.Clone(m.Before), slices.Clone(m.After)
	m.Limits, m.Schemes, m.Orders = slices.Clone(m.Limits), slices.Clone(m.Schemes), slices.Clone(m.Orders)
	m.Card.Bands = slices.Clone(m.Card.Bands)
	return m
}
