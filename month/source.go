package month

import (
	"cmp"
	"maps"
	"slices"
	"strconv"
	"strings"

	"wagebook/api"
	"wagebook/band"
	"wagebook/book"
	"wagebook/cents"
	"wagebook/civil"
	"wagebook/fact"
	"wagebook/line"
	"wagebook/period"
	"wagebook/rate"
	"wagebook/span"
	"wagebook/store"
)

// mostDays is how many days a period may have.
const mostDays = 366

// source is what a period's month is read from: what is known, of whom, and the firm's rules as they are in force on the period's last day.
type source struct {
	view   store.View
	person uint32
	period period.Period
	rules  rules
}

// coded is what is in force under a code.
type coded struct {
	code  string
	value line.Value
}

// hasRightDays tells whether a period has days, not too many, and each in the calendar of layer 4.
func hasRightDays(p period.Period) bool {
	days := span.Length(p.Span)
	return 0 < days && days <= mostDays && civil.Weekday(p.Span.From) >= 0 && civil.Weekday(p.Span.To-1) >= 0
}

// sourceOf is what the month of a period that has days is read from.
func sourceOf(v store.View, person uint32, p period.Period) source {
	firm := book.Of(v.Facts(0, fact.Rule)...)
	return source{view: v, person: person, period: p, rules: rules{firm, p.Span.To - 1}}
}

// last is the period's last day, by which values are read.
func (s source) last() api.Day {
	return s.rules.day
}

// own is the person's facts of a kind.
func (s source) own(kind int) []store.Known {
	return s.view.Facts(s.person, kind)
}

// firms is the firm's facts of a kind.
func (s source) firms(kind int) []store.Known {
	return s.view.Facts(0, kind)
}

// inForce is which of these facts are in force on a day, each code by itself; by rising codes.
func inForce(d api.Day, facts ...store.Known) []coded {
	byCode := map[string][]store.Known{}
	for _, k := range facts {
		byCode[k.Fact.Code] = append(byCode[k.Fact.Code], k)
	}
	var l []coded
	for _, code := range slices.Sorted(maps.Keys(byCode)) {
		if value, ok := line.Of(byCode[code]...).At(d); ok {
			l = append(l, coded{code, value})
		}
	}
	return l
}

// deductions is what is wanted by the person's facts of a kind.
func (s source) deductions(kind int) ([]api.Item, api.Errno) {
	var l []api.Item
	for _, each := range inForce(s.last(), s.own(kind)...) {
		if each.value.Num != 0 {
			l = append(l, api.Item{Code: each.code, Cents: api.Cents(each.value.Num)})
		}
	}
	if len(l) > api.MaxItems {
		return nil, api.ErrMany
	}
	return l, api.OK
}

// card is the person's tax card, with its table.
func (s source) card() (api.Card, api.Errno) {
	value, ok := line.Of(s.own(fact.Card)...).At(s.last())
	if !ok {
		return api.Card{}, api.OK
	}
	table, ok := s.rules.text("tax." + value.Text)
	if !ok {
		return api.Card{}, api.ErrNone
	}
	bands, e := band.Parse(table)
	if e != api.OK {
		return api.Card{}, e
	}
	return api.Card{Allowance: api.Cents(value.Num), Bands: bands}, api.OK
}

// orders is the person's attachments, as they are served.
func (s source) orders() ([]api.Order, api.Errno) {
	var l []api.Order
	for _, each := range inForce(s.last(), s.own(fact.Attach)...) {
		l = append(l, orderOf(each))
	}
	if len(l) > api.MaxItems {
		return nil, api.ErrMany
	}
	slices.SortStableFunc(l, func(a, b api.Order) int { return cmp.Compare(a.Rank, b.Rank) }) // of one rank they stay by their codes
	return l, api.OK
}

// orderOf is the order that a fact tells; one that was told has an order's text.
func orderOf(told coded) api.Order {
	o := api.Order{Code: told.code, Total: api.Cents(told.value.Num)}
	words := strings.Split(told.value.Text, " ")
	o.Rank, _ = strconv.Atoi(words[0])
	o.Rate, _ = rate.Parse(words[1])
	o.Fixed, _ = cents.Parse(words[2])
	o.Protect, _ = cents.Parse(words[3])
	return o
}
