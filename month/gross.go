package month

import (
	"maps"
	"slices"

	"wagebook/absent"
	"wagebook/api"
	"wagebook/cents"
	"wagebook/civil"
	"wagebook/fact"
	"wagebook/prorate"
	"wagebook/rate"
	"wagebook/sheet"
	"wagebook/span"
	"wagebook/terms"
	"wagebook/week"
)

const (
	weekDays    = 7
	dayMinutes  = 1440
	weekMinutes = weekDays * dayMinutes
	hourMinutes = 60
	mostFactor  = 10 * rate.One // of what an hour over, or by night, is paid
	overFactor  = rate.One * 3 / 2
)

// earned is what a person earns in a period by its terms, and what formulas may ask of these.
type earned struct {
	salary, absent, over, night api.Cents
	hours                       sheet.Hours
	last                        terms.Terms // on the period's last day
}

// gross is the gross items of a period whose days are right.
func (s source) gross() ([]api.Item, api.Errno) {
	l, e := s.bonuses()
	if e != api.OK {
		return nil, e
	}
	employed := terms.Employed(s.view, s.person, s.period.Span)
	if employed.Days() > 0 {
		pay, e := s.earned(employed)
		if e != api.OK {
			return nil, e
		}
		elements, e := s.elements(pay)
		if e != api.OK {
			return nil, e
		}
		l = append(append(l, pay.items()...), elements...)
	}
	return gathered(l...)
}

// gathered is items whose amounts are those of their codes together, but for those that come to nothing; by rising codes.
func gathered(l ...api.Item) ([]api.Item, api.Errno) {
	sums := map[string]api.Cents{}
	for _, item := range l {
		sum, e := cents.Add(sums[item.Code], item.Cents)
		if e != api.OK {
			return nil, e
		}
		sums[item.Code] = sum
	}
	items := itemsOf(sums)
	if len(items) > api.MaxItems {
		return nil, api.ErrMany
	}
	return items, api.OK
}

// itemsOf is an item for each code with a sum that isn't 0; by rising codes.
func itemsOf(sums map[string]api.Cents) []api.Item {
	var l []api.Item
	for _, code := range slices.Sorted(maps.Keys(sums)) {
		if sums[code] != 0 {
			l = append(l, api.Item{Code: code, Cents: sums[code]})
		}
	}
	return l
}

// bonuses is those of the period's days, whether or not the person is employed. Facts are so few that their amounts can't wrap round, and it is the whole sum that must fit.
func (s source) bonuses() ([]api.Item, api.Errno) {
	sums := map[string]api.Cents{}
	for _, k := range s.own(fact.Bonus) {
		if day := k.Fact.From; s.period.Span.From <= day && day < s.period.Span.To {
			sums[k.Fact.Code] += api.Cents(k.Fact.Num)
		}
	}
	l := itemsOf(sums)
	for _, item := range l {
		if !cents.Fits(item.Cents) {
			return nil, api.ErrOverflow
		}
	}
	return l, api.OK
}

// earned is what a person earns that is employed on some days of the period.
func (s source) earned(employed span.Set) (earned, api.Errno) {
	agreed, e := terms.Of(s.view, s.person, s.period.Span)
	if e != api.OK {
		return earned{}, e
	}
	pay := earned{last: agreed[len(agreed)-1]}
	pattern := week.Pattern{Week: pay.last.Hours, Free: s.holidays()}
	if e := pattern.Check(); e != api.OK { // of what was told there can be but too many free days
		return earned{}, e
	}
	if pay.salary, e = prorate.Salary(s.period, piecesOf(agreed)...); e != api.OK {
		return earned{}, e
	}
	if pay.absent, e = s.absent(pay.salary, employed, pattern); e != api.OK {
		return earned{}, e
	}
	if pay.hours, e = s.hours(); e != api.OK {
		return earned{}, e
	}
	if pay.over, pay.night, e = s.above(pay.hours, pay.last); e != api.OK {
		return earned{}, e
	}
	return pay, api.OK
}

// items is what is earned, in the order in which it is added.
func (pay earned) items() []api.Item {
	return []api.Item{{Code: "salary", Cents: pay.salary}, {Code: "absent", Cents: pay.absent}, {Code: "over", Cents: pay.over}, {Code: "night", Cents: pay.night}}
}

// holidays is the firm's free days, rising, each once.
func (s source) holidays() []api.Day {
	var days []api.Day
	for _, k := range s.firms(fact.Holiday) {
		days = append(days, k.Fact.From)
	}
	slices.Sort(days)
	return slices.Compact(days)
}

// piecesOf is the days on which the person is employed, with what is paid for them.
func piecesOf(agreed []terms.Terms) []prorate.Piece {
	var l []prorate.Piece
	for _, t := range agreed {
		if t.Employed {
			l = append(l, prorate.Piece{Days: t.Span, Yearly: t.Salary, Part: t.Part})
		}
	}
	return l
}

// absent is what the salary is less by what is lost of it, absences of one rate taken together: so it isn't above 0.
func (s source) absent(salary api.Cents, employed span.Set, pattern week.Pattern) (api.Cents, api.Errno) {
	l, e := absent.Of(s.view, s.person, s.period.Span)
	if e != api.OK {
		return 0, e
	}
	away := map[api.Rate][]api.Span{}
	for _, a := range l {
		away[a.Paid] = append(away[a.Paid], a.Span)
	}
	minutes := minutesOf(pattern, employed)
	var sum api.Cents
	for _, paid := range slices.Sorted(maps.Keys(away)) {
		lost := minutesOf(pattern, span.Of(away[paid]...).Meet(employed))
		loss, e := prorate.Loss(s.period, salary, minutes, lost, paid)
		if e != api.OK {
			return 0, e
		}
		if sum, e = cents.Add(sum, loss); e != api.OK {
			return 0, e
		}
	}
	return -sum, api.OK
}

// minutesOf is the pattern's minutes of a set of days.
func minutesOf(pattern week.Pattern, days span.Set) int {
	sum := 0
	for _, each := range days.All() {
		sum += pattern.Minutes(each)
	}
	return sum
}

// hours is what the person worked on the period's days. The other days of its first week and of its last one count for what is over; those of them that aren't in the calendar have no sheets.
func (s source) hours() (sheet.Hours, api.Errno) {
	first, last := s.period.Span.From, s.last()
	weeks := api.Span{From: first - api.Day(civil.Weekday(first)), To: last - api.Day(civil.Weekday(last)) + weekDays}
	l, e := sheet.Of(s.view, s.person, weeks)
	if e != api.OK {
		return sheet.Hours{}, e
	}
	most := sheet.Limits{Day: int(s.rules.number("hours.day", dayMinutes)), Week: int(s.rules.number("hours.week", weekMinutes))}
	return sheet.Sum(l, most, s.period.Span)
}

// above is what is paid besides for hours over, and for those by night, by the terms on the last day.
func (s source) above(hours sheet.Hours, last terms.Terms) (over, night api.Cents, e api.Errno) {
	overRate := s.rules.number("over.rate", int64(overFactor))
	nightRate := s.rules.number("night.rate", 0)
	if !isFactor(overRate) || !isFactor(nightRate) {
		return 0, 0, api.ErrRange
	}
	weekly := 0
	for _, minutes := range last.Hours {
		weekly += minutes
	}
	if weekly == 0 { // then there is no hour
		return 0, 0, api.OK
	}
	hour, e := prorate.Hourly(last.Salary, weekly)
	if e != api.OK {
		return 0, 0, e
	}
	if over, e = paidFor(hour, hours.Over, overRate); e != api.OK {
		return 0, 0, e
	}
	if night, e = paidFor(hour, hours.Night, nightRate); e != api.OK {
		return 0, 0, e
	}
	return over, night, api.OK
}

// isFactor tells whether a number may say how much of an hour is paid.
func isFactor(n int64) bool {
	return 0 <= n && n <= int64(mostFactor)
}

// paidFor is what is paid for minutes, by an hour and its factor.
func paidFor(hour api.Cents, minutes int, factor int64) (api.Cents, api.Errno) {
	return rate.Part(hour, int64(minutes)*factor, hourMinutes*int64(rate.One), rate.Half)
}
