package prorate_test

import (
	"fmt"
	"math"
	"math/big"
	"math/rand"
	"slices"
	"testing"

	"wagebook/api"
	"wagebook/period"
	"wagebook/prorate"
)

func TestP20_1Period(t *testing.T) {
	for _, x := range []struct {
		index, of      int
		yearly, wanted api.Cents
	}{
		{3, 12, 6000000, 500000},
		{1, 1, 12345, 12345},
		{1, 12, 100, 8}, // 8.33
		{2, 12, 100, 9}, // 16.67 less 8.33
		{1, 2, 5, 3},    // 2.5, away from 0
		{2, 2, 5, 2},    // what is left
		{1, 2, -5, -3},  // the same, turned
		{2, 2, -5, -2},  //
		{12, 12, 0, 0},  //
		{1, 12, 5, 0},   // 0.42
		{2, 12, 5, 1},   // 0.83
		{26, 26, 1, 0},  // up to the 25th 0.96
		{13, 26, 1, 1},  // a half
		{1, 1, most, most},
		{1, 1, -most, -most},
		{7, 12, most, between(most, 6, 7, 12)},
		{1, 1 << 50, most, 1},
		{1 << 50, 1 << 50, most, 1},
		{1 << 50, 1 << 50, 1, 0},
	} {
		p := period.Period{Index: x.index, Of: x.of}
		c, e := prorate.Period(p, x.yearly)
		checkAmount(t, fmt.Sprint(x.index, " of ", x.of, " of ", x.yearly), c, e, x.wanted)
		p.Year, p.Span, p.Pay = -7, api.Span{From: highest, To: lowest}, 9 // these count for nothing
		c, e = prorate.Period(p, x.yearly)
		checkAmount(t, fmt.Sprint("by another year, ", x.index, " of ", x.of, " of ", x.yearly), c, e, x.wanted)
	}
}

func TestP20_1Errors(t *testing.T) {
	for _, x := range []struct {
		index, of int
		yearly    api.Cents
		wanted    api.Errno
	}{
		{1, 12, most + 1, api.ErrOverflow},
		{1, 12, -most - 1, api.ErrOverflow},
		{1, 12, math.MinInt64, api.ErrOverflow},
		{1, 12, math.MaxInt64, api.ErrOverflow},
		{0, 0, most + 1, api.ErrOverflow},
		{0, -1, most + 1, api.ErrOverflow},
		{0, 12, most + 1, api.ErrOverflow},
		{0, 0, 5, api.ErrZero},
		{1, 0, 5, api.ErrZero},
		{math.MinInt, 0, 5, api.ErrZero},
		{1, -1, 5, api.ErrRange},
		{1, math.MinInt, 5, api.ErrRange},
		{1, 1<<50 + 1, 5, api.ErrRange},
		{1, math.MaxInt, 5, api.ErrRange},
		{0, 12, 5, api.ErrRange},
		{-1, 12, 5, api.ErrRange},
		{13, 12, 5, api.ErrRange},
		{14, 12, 5, api.ErrRange},
		{math.MinInt, 12, 5, api.ErrRange},
		{math.MinInt + 1, 12, 5, api.ErrRange},
		{math.MaxInt, 12, 5, api.ErrRange},
		{math.MaxInt, math.MaxInt, 5, api.ErrRange},
		{0, 12, 0, api.ErrRange},
	} {
		c, e := prorate.Period(period.Period{Index: x.index, Of: x.of}, x.yearly)
		checkRefused(t, fmt.Sprint(x.index, " of ", x.of, " of ", x.yearly), c, e, x.wanted)
	}
}

func TestP20_2Example(t *testing.T) {
	for _, x := range []struct {
		l      []prorate.Piece
		wanted api.Cents
	}{
		{nil, 0},
		{[]prorate.Piece{}, 0},
		{[]prorate.Piece{piece(100, 131, 6000000, one)}, 500000},
		{[]prorate.Piece{piece(110, 131, 6000000, one)}, 338710},
		{[]prorate.Piece{piece(100, 110, 6000000, one)}, 161290},
		{[]prorate.Piece{piece(100, 131, 6000000, 0)}, 0},
		{[]prorate.Piece{piece(100, 131, 6000000, one/2)}, 250000},
		{[]prorate.Piece{piece(100, 131, 6000000, -one/2)}, -250000},
		{[]prorate.Piece{piece(100, 131, -6000000, one)}, -500000},
		{[]prorate.Piece{piece(110, 131, -6000000, one)}, -338710},
		{[]prorate.Piece{piece(100, 131, 6000000, 2*one)}, 1000000},
		{[]prorate.Piece{piece(100, 110, 6000000, one), piece(110, 131, 7200000, one)}, 161290 + 600000 - 193548},
		{[]prorate.Piece{piece(110, 131, 7200000, one), piece(100, 110, 6000000, one)}, 161290 + 600000 - 193548},
		{[]prorate.Piece{piece(100, 101, 6000000, one), piece(130, 131, 6000000, one)}, 16129 + 16129},
		{[]prorate.Piece{piece(100, 110, 6000000, one), piece(110, 131, 6000000, -one)}, 161290 - 338710},
		{[]prorate.Piece{piece(115, 116, 6000000, one)}, 258065 - 241935}, // 15 and 16 of 31 days
	} {
		c, e := prorate.Salary(march(), x.l...)
		checkAmount(t, named(march(), x.l), c, e, x.wanted)
	}
}

// TestP20_2Rounding: the year's amount is rounded by its part, then the period's, then the days'.
func TestP20_2Rounding(t *testing.T) {
	for _, x := range []struct {
		p      period.Period
		piece  prorate.Piece
		wanted api.Cents
	}{
		{periodOf(0, 2, 1, 2), piece(0, 1, 1, one/2), 1},       // a half is 1; of that a half is 1; of that a half is 1
		{periodOf(0, 2, 2, 2), piece(0, 1, 1, one/2), 0},       // what the first period has left
		{periodOf(0, 2, 1, 2), piece(1, 2, 1, one/2), 0},       // what the first day has left
		{periodOf(0, 2, 1, 2), piece(0, 1, -1, one/2), -1},     // turned
		{periodOf(0, 2, 1, 2), piece(0, 1, 1, one/2-1), 0},     // less than a half
		{periodOf(0, 1, 1, 1), piece(0, 1, 5, one/10), 1},      // half a cent, away from 0, though 0 is the even one
		{periodOf(0, 1, 1, 1), piece(0, 1, 25, one/10), 3},     //
		{periodOf(0, 1, 1, 3), piece(0, 1, 4, one), 1},         // 1.33
		{periodOf(0, 1, 2, 3), piece(0, 1, 4, one), 2},         // 2.67 less 1.33
		{periodOf(0, 4, 1, 1), piece(1, 3, 5, one), 3},         // 3.75 less 1.25
		{periodOf(0, 4, 1, 1), piece(1, 3, 6, one), 3},         // 4.5 less 1.5
		{periodOf(0, 4, 1, 1), piece(0, 1, 6, one), 2},         // 1.5
		{periodOf(0, 4, 1, 1), piece(2, 3, 6, one), 2},         // 4.5 less 3
		{periodOf(0, 1, 1, 1), piece(0, 1, most, one), most},   //
		{periodOf(0, 1, 1, 1), piece(0, 1, -most, one), -most}, //
		{periodOf(0, 1, 1, 1), piece(0, 1, -most, -one), most}, //
		{periodOf(0, 1, 1, 1), piece(0, 1, 1, 1000000000), 1000},
	} {
		c, e := prorate.Salary(x.p, x.piece)
		checkAmount(t, named(x.p, []prorate.Piece{x.piece}), c, e, x.wanted)
	}
}

// TestP20_2Spans: a piece's days are the period's, none is in two of them, and the period isn't longer than a year.
func TestP20_2Spans(t *testing.T) {
	for _, x := range []struct {
		p      period.Period
		l      []prorate.Piece
		wanted api.Errno
	}{
		{march(), []prorate.Piece{piece(100, 132, 1, one)}, api.ErrSpan},
		{march(), []prorate.Piece{piece(99, 131, 1, one)}, api.ErrSpan},
		{march(), []prorate.Piece{piece(99, 100, 1, one)}, api.ErrSpan},
		{march(), []prorate.Piece{piece(131, 132, 1, one)}, api.ErrSpan},
		{march(), []prorate.Piece{piece(100, 100, 1, one)}, api.ErrSpan},
		{march(), []prorate.Piece{piece(110, 105, 1, one)}, api.ErrSpan},
		{march(), []prorate.Piece{{}}, api.ErrSpan},
		{march(), []prorate.Piece{piece(highest, lowest, 1, one)}, api.ErrSpan},
		{march(), []prorate.Piece{piece(lowest, highest, 1, one)}, api.ErrSpan},
		{march(), []prorate.Piece{piece(lowest, 131, 1, one)}, api.ErrSpan},
		{march(), []prorate.Piece{piece(100, highest, 1, one)}, api.ErrSpan},
		{periodOf(100, 100, 1, 1), []prorate.Piece{piece(100, 101, 1, one)}, api.ErrSpan},
		{periodOf(100, 100, 1, 1), []prorate.Piece{piece(100, 100, 1, one)}, api.ErrSpan},
		{periodOf(131, 100, 1, 1), []prorate.Piece{piece(100, 131, 1, one)}, api.ErrSpan},
		{period.Period{}, []prorate.Piece{{}}, api.ErrSpan},
		{periodOf(0, 367, 1, 1), []prorate.Piece{piece(0, 1, 1, one)}, api.ErrSpan},
		{periodOf(0, 367, 1, 1), []prorate.Piece{piece(0, 367, 1, one)}, api.ErrSpan},
		{periodOf(lowest, highest, 1, 1), []prorate.Piece{piece(0, 1, 1, one)}, api.ErrSpan},
		{periodOf(lowest, highest, 1, 1), []prorate.Piece{piece(lowest, highest, 1, one)}, api.ErrSpan},
		{march(), []prorate.Piece{piece(100, 111, 1, one), piece(110, 131, 1, one)}, api.ErrCross},
		{march(), []prorate.Piece{piece(110, 131, 1, one), piece(100, 111, 1, one)}, api.ErrCross},
		{march(), []prorate.Piece{piece(100, 131, 1, one), piece(115, 116, 1, one)}, api.ErrCross},
		{march(), []prorate.Piece{piece(115, 116, 1, one), piece(100, 131, 1, one)}, api.ErrCross},
		{march(), []prorate.Piece{piece(100, 105, 1, one), piece(110, 115, 1, one), piece(104, 111, 1, one)}, api.ErrCross},
		{march(), []prorate.Piece{piece(100, 105, 1, one), piece(110, 115, 1, one), piece(100, 101, 1, one)}, api.ErrCross},
		{march(), []prorate.Piece{piece(100, 131, 0, 0), piece(100, 131, 0, 0)}, api.ErrCross},
		{march(), []prorate.Piece{piece(100, 131, 1, one), piece(130, 132, 1, one)}, api.ErrSpan},
	} {
		c, e := prorate.Salary(x.p, x.l...)
		checkRefused(t, named(x.p, x.l), c, e, x.wanted)
	}
	for _, from := range []api.Day{0, lowest, highest - 366, -100} { // far ahead of the calendar, and behind it, too
		c, e := prorate.Salary(periodOf(from, from+366, 1, 1), piece(from, from+1, 36600, one), piece(from+365, from+366, 36600, one))
		checkAmount(t, "the longest", c, e, 200)
	}
}

// TestP20_2Order makes everything wrong, and mends it in the order in which errors are told.
func TestP20_2Order(t *testing.T) {
	p := periodOf(0, 367, 0, 0)
	l := slices.Repeat([]prorate.Piece{piece(0, 1, most+1, 1000000001)}, api.MaxItems+1)
	c, e := prorate.Salary(p, l...)
	checkRefused(t, "too many", c, e, api.ErrMany)
	l = []prorate.Piece{piece(5, 5, most+1, 1000000001), piece(400, 401, most+1, 1000000001)}
	for i, step := range []struct {
		wanted api.Errno
		mend   func()
	}{
		{api.ErrSpan, func() { l[0].Days = api.Span{From: -1, To: 3} }},
		{api.ErrSpan, func() { l[0].Days.From = 0 }},
		{api.ErrSpan, func() { p.Span.To = 366 }},
		{api.ErrRange, func() { l[0].Yearly = most }},
		{api.ErrRange, func() { l[0].Part = 1000000000 }},
		{api.ErrOverflow, func() { l[0].Part = one }},
		{api.ErrZero, func() { p.Of = -1 }},
		{api.ErrRange, func() { p.Of = 1 }},
		{api.ErrRange, func() { p.Index = 1; l[0].Days.To = 366 }},
		{api.ErrSpan, func() { l[0].Days.To = 365; l[1].Days = api.Span{From: 364, To: 366} }},
		{api.ErrCross, func() { l[1].Days.From = 365; l[0].Days.To = 364 }},
		{api.ErrRange, func() { l[1].Yearly = most }},
		{api.ErrRange, func() { l[1].Part = -1000000000 }},
		{api.ErrOverflow, func() { l[1].Part = one }},
	} {
		c, e := prorate.Salary(p, l...)
		checkRefused(t, fmt.Sprint("step ", i), c, e, step.wanted)
		step.mend()
	}
	c, e = prorate.Salary(p, l...)
	checkAmount(t, "all mended", c, e, between(most, 0, 364, 366)+between(most, 365, 366, 366))
}

// TestP20_2Sum: a sum beyond the limit is told ahead of what is wrong with later pieces. Of the greatest amount the odd ones of seven days have a cent more, of the one below it the even ones.
func TestP20_2Sum(t *testing.T) {
	for _, sign := range []api.Cents{1, -1} {
		var l []prorate.Piece
		for d := range api.Day(7) {
			l = append(l, piece(d, d+1, sign*(most-api.Cents(d%2)), one))
		}
		p := periodOf(0, 7, 1, 1)
		c, e := prorate.Salary(p, l[:6]...)
		checkAmount(t, "six days", c, e, sign*6*(most/7+1))
		c, e = prorate.Salary(p, l...)
		checkRefused(t, "seven days", c, e, api.ErrOverflow)
		c, e = prorate.Salary(p, append(l, piece(9, 9, most+1, one))...)
		checkRefused(t, "and a piece that is wrong", c, e, api.ErrOverflow)
		l[3].Days = api.Span{From: 9, To: 10}
		c, e = prorate.Salary(p, l...)
		checkRefused(t, "a piece that is wrong ahead of it", c, e, api.ErrSpan)
		p = periodOf(0, 2, 1, 1)
		c, e = prorate.Salary(p, piece(0, 1, sign*most, one), piece(1, 2, sign*most, one))
		checkAmount(t, "the most", c, e, sign*most)
	}
}

func TestP20_2Many(t *testing.T) {
	p := periodOf(0, 100, 1, 1)
	var l []prorate.Piece
	for i := range api.Day(api.MaxItems) {
		l = append(l, piece(i, i+1, 10000, one))
	}
	c, e := prorate.Salary(p, l...)
	checkAmount(t, "as many as there may be", c, e, 6400)
	c, e = prorate.Salary(p, append(l, piece(64, 65, 10000, one))...)
	checkRefused(t, "one more", c, e, api.ErrMany)
	c, e = prorate.Salary(period.Period{})
	checkAmount(t, "none, of no period", c, e, 0)
	c, e = prorate.Salary(periodOf(lowest, highest, math.MinInt, math.MinInt))
	checkAmount(t, "none, of a wrong period", c, e, 0)
}

func TestP20_2ByWords(t *testing.T) {
	r := rand.New(rand.NewSource(202))
	seen := map[api.Errno]int{}
	for range 20000 {
		p := someMonth(r)
		l := somePieces(r, p)
		c, e := prorate.Salary(p, l...)
		wanted, wantedE := salaryByWords(p, l)
		check(t, "error of "+named(p, l), e, wantedE)
		check(t, named(p, l), c, wanted)
		seen[e]++
	}
	for _, e := range []api.Errno{api.OK, api.ErrSpan, api.ErrCross, api.ErrRange, api.ErrOverflow, api.ErrZero} {
		check(t, fmt.Sprint("error ", e, " is come to"), seen[e] > 20, true)
	}
}

func TestP20_3Loss(t *testing.T) {
	for _, x := range []struct {
		salary        api.Cents
		minutes, lost int
		paid          api.Rate
		wanted        api.Cents
	}{
		{500000, 9600, 480, 500000, 12500},
		{500000, 9600, 480, 0, 25000},
		{500000, 9600, 480, one, 0},
		{500000, 9600, 0, 0, 0},
		{500000, 9600, 9600, 0, 500000},
		{500000, 9600, 9600, 1, 500000}, // 499999.5
		{500000, 9600, 9600, 2, 499999},
		{-500000, 9600, 480, 500000, -12500},
		{-500000, 9600, 9600, 1, -500000},
		{1, 2, 1, 0, 1}, // half a cent
		{-1, 2, 1, 0, -1},
		{3, 2, 1, 0, 2},
		{5, 2, 1, 0, 3}, // away from 0, though 2 is the even one
		{1, 3, 1, 0, 0},
		{1, 1, 1, 500000, 1},
		{1, 1, 1, 500001, 0},
		{0, 9600, 9600, 0, 0},
		{5, 0, 0, 0, 0},
		{most, 0, 0, one, 0},
		{most, 31 * 1440, 31 * 1440, 0, most},
		{-most, 31 * 1440, 31 * 1440, 0, -most},
		{most, 31 * 1440, 31*1440 - 1, 999999, nearest(most, big.NewInt(31*1440-1), big.NewInt(31*1440*1000000))},
	} {
		c, e := prorate.Loss(march(), x.salary, x.minutes, x.lost, x.paid)
		checkAmount(t, fmt.Sprint(x), c, e, x.wanted)
	}
}

func TestP20_3Minutes(t *testing.T) {
	for _, x := range []struct {
		days api.Day
		most int
	}{{31, 31 * 1440}, {1, 1440}, {0, 0}, {-1, 0}, {-1000, 0}, {365, 365 * 1440}, {366, 366 * 1440}, {367, 366 * 1440}, {100000, 366 * 1440}} {
		for _, from := range []api.Day{100, -100000, 0} {
			p := periodOf(from, from+x.days, 3, 12)
			c, e := prorate.Loss(p, 777, x.most, x.most, 0)
			wanted := api.Cents(777)
			if x.most == 0 {
				wanted = 0
			}
			checkAmount(t, fmt.Sprint("the most minutes of ", x.days, " days"), c, e, wanted)
			c, e = prorate.Loss(p, 777, x.most+1, 0, 0)
			checkRefused(t, fmt.Sprint("one more of ", x.days, " days"), c, e, api.ErrRange)
		}
	}
	for _, s := range []api.Span{{From: lowest, To: highest}, {From: lowest, To: 0}, {From: -1, To: highest}} {
		p := period.Period{Span: s}
		c, e := prorate.Loss(p, 777, 366*1440, 366*1440, 0)
		checkAmount(t, "the longest", c, e, 777)
		c, e = prorate.Loss(p, 777, 366*1440+1, 0, 0)
		checkRefused(t, "the longest, one more", c, e, api.ErrRange)
	}
	c, e := prorate.Loss(period.Period{Span: api.Span{From: highest, To: lowest}}, 777, 1, 0, 0)
	checkRefused(t, "no days", c, e, api.ErrRange)
}

func TestP20_3Errors(t *testing.T) {
	for _, x := range []struct {
		salary        api.Cents
		minutes, lost int
		paid          api.Rate
	}{
		{most + 1, 0, 0, 0}, {-most - 1, 0, 0, 0}, {math.MinInt64, 9600, 480, 0}, {math.MaxInt64, 9600, 480, 0},
		{1, -1, 0, 0}, {1, -1, -1, 0}, {1, math.MinInt, 0, 0}, {1, math.MaxInt, 0, 0}, {1, 31*1440 + 1, 0, 0},
		{1, 5, 6, 0}, {1, 5, -1, 0}, {1, 0, 1, 0}, {1, 0, -1, 0}, {1, 5, math.MinInt, 0}, {1, 5, math.MaxInt, 0},
		{1, 5, 5, -1}, {1, 5, 5, one + 1}, {1, 0, 0, -1}, {1, 0, 0, one + 1}, {1, 5, 5, math.MinInt64}, {1, 5, 5, math.MaxInt64}, {0, 5, 0, -1},
	} {
		c, e := prorate.Loss(march(), x.salary, x.minutes, x.lost, x.paid)
		checkRefused(t, fmt.Sprint(x), c, e, api.ErrRange)
	}
}

func TestP20_3ByWords(t *testing.T) {
	r := rand.New(rand.NewSource(203))
	for range 20000 {
		salary := someCents(r)
		minutes := 1 + r.Intn(31*1440)
		lost := r.Intn(minutes + 1)
		paid := []api.Rate{0, one, one / 2, api.Rate(r.Intn(1000001))}[r.Intn(4)]
		c, e := prorate.Loss(march(), salary, minutes, lost, paid)
		share := new(big.Int).Mul(big.NewInt(int64(lost)), big.NewInt(int64(one-paid)))
		checkAmount(t, fmt.Sprint(salary, minutes, lost, paid), c, e, nearest(salary, share, big.NewInt(int64(minutes)*1000000)))
	}
}

func TestP20_4Hourly(t *testing.T) {
	for _, x := range []struct {
		yearly api.Cents
		weekly int
		wanted api.Cents
	}{
		{6240000, 2400, 3000},
		{-6240000, 2400, -3000},
		{52, 60, 1},
		{26, 60, 1}, // half a cent
		{-26, 60, -1},
		{25, 60, 0},
		{130, 60, 3}, // 2.5, away from 0, though 2 is the even one
		{0, 1, 0},
		{0, 10080, 0},
		{52, 1, 60},
		{8736, 10080, 1},
		{most, 10080, nearest(most, big.NewInt(60), big.NewInt(52*10080))},
		{most, 2, nearest(most, big.NewInt(60), big.NewInt(104))},
		{most, 60, nearest(most, big.NewInt(1), big.NewInt(52))},
		{most * 52 / 60, 1, most - 1}, // of a cent more it is beyond the limit
		{-most * 52 / 60, 1, 1 - most},
	} {
		c, e := prorate.Hourly(x.yearly, x.weekly)
		checkAmount(t, fmt.Sprint(x), c, e, x.wanted)
	}
	r := rand.New(rand.NewSource(204))
	for range 5000 {
		yearly, weekly := someCents(r), 2+r.Intn(10079)
		c, e := prorate.Hourly(yearly, weekly)
		checkAmount(t, fmt.Sprint(yearly, weekly), c, e, nearest(yearly, big.NewInt(60), big.NewInt(52*int64(weekly))))
	}
}

func TestP20_4Errors(t *testing.T) {
	for _, x := range []struct {
		yearly api.Cents
		weekly int
		wanted api.Errno
	}{
		{most + 1, 2400, api.ErrRange}, {-most - 1, 2400, api.ErrRange}, {math.MinInt64, 2400, api.ErrRange}, {math.MaxInt64, 2400, api.ErrRange},
		{most + 1, 0, api.ErrRange}, {-most - 1, -1, api.ErrRange},
		{1, 0, api.ErrZero}, {0, 0, api.ErrZero}, {most, 0, api.ErrZero},
		{1, -1, api.ErrRange}, {1, 10081, api.ErrRange}, {1, math.MinInt, api.ErrRange}, {1, math.MaxInt, api.ErrRange}, {0, -1, api.ErrRange}, {most, -1, api.ErrRange},
		{most, 1, api.ErrOverflow}, {-most, 1, api.ErrOverflow}, {most*52/60 + 1, 1, api.ErrOverflow}, {-most*52/60 - 1, 1, api.ErrOverflow},
	} {
		c, e := prorate.Hourly(x.yearly, x.weekly)
		checkRefused(t, fmt.Sprint(x), c, e, x.wanted)
	}
}

// TestP20_5Year: the periods of a year add up to its amount.
func TestP20_5Year(t *testing.T) {
	r := rand.New(rand.NewSource(205))
	for _, calendar := range calendars() {
		for _, year := range []int{1901, 2024, 2025, 2026, 2198} {
			l := periods(t, calendar, year)
			for range 20 {
				yearly := someCents(r)
				var parts, salaries api.Cents
				for _, p := range l {
					c, e := prorate.Period(p, yearly)
					check(t, "error of a period", e, api.OK)
					parts += c
					whole, e := prorate.Salary(p, prorate.Piece{Days: p.Span, Yearly: yearly, Part: one})
					checkAmount(t, fmt.Sprint("one piece of all days of ", p), whole, e, c)
					salaries += whole
				}
				check(t, fmt.Sprint("periods of ", year, " by ", calendar), parts, yearly)
				check(t, fmt.Sprint("salaries of ", year, " by ", calendar), salaries, yearly)
			}
		}
	}
}

// TestP20_5Cut: a piece that is cut anywhere, day by day at last, comes to the same; what is lost, unpaid, is the salary.
func TestP20_5Cut(t *testing.T) {
	r := rand.New(rand.NewSource(206))
	for range 500 {
		p := periods(t, calendars()[r.Intn(5)], 2024+r.Intn(3))[r.Intn(12)]
		whole := prorate.Piece{Days: p.Span, Yearly: someCents(r), Part: api.Rate(r.Intn(1000001))}
		wanted, e := prorate.Salary(p, whole)
		check(t, "error", e, api.OK)
		cut := p.Span.From + 1 + api.Day(r.Intn(int(p.Span.To-p.Span.From)-1))
		left, right := whole, whole
		left.Days.To, right.Days.From = cut, cut
		c, e := prorate.Salary(p, right, left)
		checkAmount(t, named(p, []prorate.Piece{right, left}), c, e, wanted)
		var days []prorate.Piece
		for d := p.Span.From; d < p.Span.To; d++ {
			days = append(days, piece(d, d+1, whole.Yearly, whole.Part))
		}
		c, e = prorate.Salary(p, days...)
		checkAmount(t, "day by day, "+named(p, days), c, e, wanted)
		minutes := 1 + r.Intn(14*1440)
		c, e = prorate.Loss(p, wanted, minutes, minutes, 0)
		checkAmount(t, "all that is lost", c, e, wanted)
	}
}

// TestMemory: what is handed in stays as it was, spare room included.
func TestMemory(t *testing.T) {
	l := []prorate.Piece{piece(110, 131, 6000000, one), piece(100, 110, 6000000, one), piece(1, 2, 3, 4)}
	kept := slices.Clone(l)
	_, _ = prorate.Salary(march(), l[:2]...)
	_, _ = prorate.Salary(march(), l...)
	if !slices.Equal(l, kept) {
		t.Errorf("pieces that were handed in: %v, wanted %v", l, kept)
	}
}
