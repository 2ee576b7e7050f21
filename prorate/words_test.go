package prorate_test

import (
	"fmt"
	"math"
	"math/big"
	"math/rand"
	"testing"

	"wagebook/api"
	"wagebook/period"
	"wagebook/prorate"
)

const (
	lowest  = api.Day(math.MinInt)
	highest = api.Day(math.MaxInt)
	most    = api.Cents(1) << 50
	one     = api.Rate(1000000)
	newYear = api.Day(19723) // 2024-01-01
)

// check fails the test, if something is another thing than was wanted.
func check[T comparable](t *testing.T, what string, got, wanted T) {
	t.Helper()
	if got != wanted {
		t.Errorf("%s: %v, wanted %v", what, got, wanted)
	}
}

// checkAmount fails the test, if there is an error, or an amount is another one than was wanted.
func checkAmount(t *testing.T, what string, got api.Cents, e api.Errno, wanted api.Cents) {
	t.Helper()
	check(t, "error of "+what, e, api.OK)
	check(t, what, got, wanted)
}

// checkRefused fails the test, if the error is another one than was wanted, or there is an amount beside it.
func checkRefused(t *testing.T, what string, got api.Cents, e, wanted api.Errno) {
	t.Helper()
	check(t, "error of "+what, e, wanted)
	check(t, "amount beside it, of "+what, got, 0)
}

// period of days, the how many'th of how many.
func periodOf(from, to api.Day, index, of int) period.Period {
	return period.Period{Year: 2024, Index: index, Of: of, Span: api.Span{From: from, To: to}}
}

// march is a month of 31 days.
func march() period.Period { return periodOf(100, 131, 3, 12) }

// piece of days, a year's amount and a part.
func piece(from, to api.Day, yearly api.Cents, part api.Rate) prorate.Piece {
	return prorate.Piece{Days: api.Span{From: from, To: to}, Yearly: yearly, Part: part}
}

// calendars are some of each kind.
func calendars() []period.Calendar {
	return []period.Calendar{{}, {Kind: period.Monthly, Lag: 5}, {Kind: period.Biweekly, First: newYear}, {Kind: period.Biweekly, First: newYear - 7}, {Kind: period.Fourweekly, First: newYear + 3}}
}

// periods are a year's.
func periods(t *testing.T, c period.Calendar, year int) []period.Period {
	t.Helper()
	l, e := c.Year(year)
	if e != api.OK || len(l) == 0 {
		t.Fatalf("periods of %d by %v: %v, error %v", year, c, l, e)
	}
	return l
}

// nearest is c * num / den to the nearest whole number, a half away from 0; of a den above 0, whatever is in between.
func nearest(c api.Cents, num, den *big.Int) api.Cents {
	twice := new(big.Int).Mul(big.NewInt(2*int64(c)), num)
	size := new(big.Int).Add(new(big.Int).Abs(twice), den) // (2n + d) / 2d, of the number without its sign
	size.Quo(size, new(big.Int).Mul(big.NewInt(2), den))
	if twice.Sign() < 0 {
		size.Neg(size)
	}
	return api.Cents(size.Int64())
}

// part is num / den of c, to the nearest.
func part(c api.Cents, num, den int64) api.Cents {
	return nearest(c, big.NewInt(num), big.NewInt(den))
}

// between is the part of c from one place up to another one.
func between(c api.Cents, from, to, of int64) api.Cents {
	return part(c, to, of) - part(c, from, of)
}

// salaryByWords is the salary as the chapter tells it, and its error; days are gone through one by one.
func salaryByWords(p period.Period, l []prorate.Piece) (api.Cents, api.Errno) {
	fits := func(c api.Cents) bool { return -most <= c && c <= most }
	var sum api.Cents
	had := map[api.Day]bool{}
	for _, x := range l {
		days := p.Span.To - p.Span.From
		if x.Days.To <= x.Days.From || days > 366 {
			return 0, api.ErrSpan
		}
		for d := x.Days.From; d < x.Days.To; d++ {
			if d < p.Span.From || d >= p.Span.To {
				return 0, api.ErrSpan
			}
		}
		for d := x.Days.From; d < x.Days.To; d++ {
			if had[d] {
				return 0, api.ErrCross
			}
		}
		if !fits(x.Yearly) || x.Part < -1000000000 || x.Part > 1000000000 {
			return 0, api.ErrRange
		}
		yearly := part(x.Yearly, int64(x.Part), 1000000)
		switch {
		case !fits(yearly):
			return 0, api.ErrOverflow
		case p.Of == 0:
			return 0, api.ErrZero
		case p.Of < 0 || p.Index < 1 || p.Index > p.Of:
			return 0, api.ErrRange
		}
		whole := between(yearly, int64(p.Index-1), int64(p.Index), int64(p.Of))
		ahead, upTo := int64(0), int64(0)
		for d := p.Span.From; d < x.Days.To; d++ {
			if d < x.Days.From {
				ahead++
			}
			upTo++
		}
		sum += between(whole, ahead, upTo, int64(days))
		if !fits(sum) {
			return 0, api.ErrOverflow
		}
		for d := x.Days.From; d < x.Days.To; d++ {
			had[d] = true
		}
	}
	return sum, api.OK
}

// someCents is an amount, mostly of a salary's size, at times near the limits.
func someCents(r *rand.Rand) api.Cents {
	switch r.Intn(6) {
	case 0:
		return most - api.Cents(r.Intn(3))
	case 1:
		return api.Cents(r.Intn(7) - 3)
	case 2:
		return -api.Cents(r.Intn(9000000))
	}
	return api.Cents(r.Intn(9000000))
}

// somePieces are some of a period's days; in pieces, at times in any order, at times with what is wrong.
func somePieces(r *rand.Rand, p period.Period) []prorate.Piece {
	var l []prorate.Piece
	length := int(p.Span.To - p.Span.From)
	for from := p.Span.From + api.Day(r.Intn(3)); from < p.Span.To && len(l) < 6; {
		to := min(from+1+api.Day(r.Intn(length)), p.Span.To)
		l = append(l, piece(from, to, someCents(r), []api.Rate{one, one / 2, 333333, 0, -one, 1000100}[r.Intn(6)]))
		from = to + api.Day(r.Intn(3))
	}
	if r.Intn(2) == 0 {
		r.Shuffle(len(l), func(i, j int) { l[i], l[j] = l[j], l[i] })
	}
	if len(l) > 0 && r.Intn(4) == 0 {
		x := &l[r.Intn(len(l))]
		switch r.Intn(5) {
		case 0:
			x.Days.From -= api.Day(r.Intn(5))
		case 1:
			x.Days.To += api.Day(r.Intn(5))
		case 2:
			x.Days.To = x.Days.From - api.Day(r.Intn(2))
		case 3:
			x.Yearly = most + 1
		case 4:
			x.Part = 1000000001
		}
	}
	return l
}

// someMonth is a month, or a period that is none in the calendar.
func someMonth(r *rand.Rand) period.Period {
	from := []api.Day{-5, 0, newYear, lowest, highest - 400}[r.Intn(5)]
	length := []api.Day{1, 14, 28, 29, 30, 31, 366, 367}[r.Intn(8)]
	of := []int{1, 12, 13, 26, 27}[r.Intn(5)]
	p := periodOf(from, from+length, 1+r.Intn(of), of)
	if r.Intn(12) == 0 {
		p.Index, p.Of = r.Intn(4)-1, r.Intn(4)-1
	}
	return p
}

// named is how pieces stand in a failed test's message.
func named(p period.Period, l []prorate.Piece) string { return fmt.Sprintf("%.300s", fmt.Sprint(p, l)) }
