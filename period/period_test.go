package period_test

import (
	"fmt"
	"math"
	"slices"
	"testing"
	"time"

	"wagebook/api"
	"wagebook/period"
)

const (
	firstDay = api.Day(-25567) // 1900-01-01
	lastDay  = api.Day(84005)  // 2199-12-31
)

// check fails the test, if something is another thing than was wanted.
func check[T comparable](t *testing.T, what string, got, wanted T) {
	t.Helper()
	if got != wanted {
		t.Errorf("%s: %v, wanted %v", what, got, wanted)
	}
}

// day is a date's day, by another reckoning than the program's.
func day(year, month, d int) api.Day {
	return api.Day(time.Date(year, time.Month(month), d, 0, 0, 0, 0, time.UTC).Unix() / 86400)
}

// yearOf is a day's year, by another reckoning than the program's.
func yearOf(d api.Day) int {
	return time.Unix(int64(d)*86400, 0).UTC().Year()
}

// spansByWords are the days of all periods, by the chapter's words, without those that aren't wholly in layer 4's calendar.
func spansByWords(c period.Calendar) []api.Span {
	var l []api.Span
	if c.Kind == period.Monthly {
		for month := range 300 * 12 {
			l = append(l, api.Span{From: day(1900, 1+month, 1), To: day(1900, 2+month, 1)})
		}
		return l
	}
	length := api.Day(14)
	if c.Kind == period.Fourweekly {
		length = 28
	}
	begin := c.First
	for begin-length >= firstDay {
		begin -= length
	}
	for ; begin+length-1 <= lastDay; begin += length {
		l = append(l, api.Span{From: begin, To: begin + length})
	}
	return l
}

// allByWords are all periods, by the chapter's words.
func allByWords(c period.Calendar) []period.Period {
	spans := spansByWords(c)
	of := map[int]int{}
	l := make([]period.Period, len(spans))
	for i, s := range spans {
		year := yearOf(s.To - 1)
		of[year]++
		l[i] = period.Period{Year: year, Index: of[year], Span: s, Pay: min(s.To-1+api.Day(c.Lag), lastDay)}
	}
	for i := range l {
		l[i].Of = of[l[i].Year]
	}
	return l
}

// calendars are right ones, of each kind, with First and Lag at their limits and between.
func calendars() []period.Calendar {
	l := []period.Calendar{{}, {Lag: 5}, {First: firstDay, Lag: 60}, {First: lastDay, Lag: 1}}
	for kind := period.Biweekly; kind <= period.Fourweekly; kind++ {
		for _, first := range []api.Day{firstDay, firstDay + 1, firstDay + 27, 0, -1, 19716, 19723, lastDay - 28, lastDay - 27, lastDay - 13, lastDay - 1, lastDay} {
			l = append(l, period.Calendar{Kind: kind, First: first, Lag: int(first-firstDay) % 61})
		}
	}
	return l
}

// wrong are calendars in which Check finds something, with what it finds.
func wrong() map[period.Calendar]api.Errno {
	return map[period.Calendar]api.Errno{
		{Kind: -1}:          api.ErrKind,
		{Kind: 3}:           api.ErrKind,
		{Kind: math.MinInt}: api.ErrKind,
		{Kind: math.MaxInt, First: lastDay + 1, Lag: -1}:       api.ErrKind,
		{Kind: -1, First: firstDay - 1}:                        api.ErrKind,
		{Kind: 3, Lag: 61}:                                     api.ErrKind,
		{First: firstDay - 1}:                                  api.ErrDay,
		{First: lastDay + 1}:                                   api.ErrDay,
		{Kind: period.Biweekly, First: firstDay - 1}:           api.ErrDay,
		{Kind: period.Fourweekly, First: lastDay + 1}:          api.ErrDay,
		{Kind: period.Biweekly, First: math.MinInt, Lag: -1}:   api.ErrDay,
		{Kind: period.Fourweekly, First: math.MaxInt, Lag: 61}: api.ErrDay,
		{Lag: -1}: api.ErrRange,
		{Lag: 61}: api.ErrRange,
		{Kind: period.Biweekly, First: firstDay, Lag: -1}:         api.ErrRange,
		{Kind: period.Fourweekly, First: lastDay, Lag: 61}:        api.ErrRange,
		{Kind: period.Fourweekly, First: 19723, Lag: math.MaxInt}: api.ErrRange,
		{Kind: period.Biweekly, First: lastDay, Lag: math.MinInt}: api.ErrRange,
	}
}

// altered are a period's alike in all fields but one.
func altered(p period.Period) []period.Period {
	l := slices.Repeat([]period.Period{p}, 9)
	l[0].Year++
	l[1].Year--
	l[2].Index++
	l[3].Index = 0
	l[4].Of++
	l[5].Span.From++
	l[6].Span.To--
	l[7].Pay++
	l[8].Pay = 0
	if p.Pay == 0 {
		l[8].Pay = -1
	}
	return l
}

// find is the period of a day that is known to have one.
func find(t *testing.T, c period.Calendar, d api.Day) period.Period {
	t.Helper()
	p, e := c.Find(d)
	if e != api.OK {
		t.Fatalf("%v: Find(%d): error %d", c, d, e)
	}
	return p
}

// checkNone fails the test, if a call's answer is anything but an error, with the zero period.
func checkNone(t *testing.T, what string, p period.Period, e, wanted api.Errno) {
	t.Helper()
	if p != (period.Period{}) || e != wanted {
		t.Errorf("%s: %v, error %d; wanted error %d", what, p, e, wanted)
	}
}

func TestP6_1Check(t *testing.T) {
	if [3]int{period.Monthly, period.Biweekly, period.Fourweekly} != [3]int{0, 1, 2} {
		t.Error("the kinds' numbers")
	}
	for c, wanted := range wrong() {
		check(t, fmt.Sprint("Check ", c), c.Check(), wanted)
	}
	for _, c := range calendars() {
		check(t, fmt.Sprint("Check ", c), c.Check(), api.OK)
		for lag, wanted := range map[int]api.Errno{0: api.OK, 60: api.OK, -1: api.ErrRange, 61: api.ErrRange} {
			c.Lag = lag
			check(t, fmt.Sprint("Check ", c), c.Check(), wanted)
		}
	}
}

func TestP6_1WrongCalendars(t *testing.T) {
	right := find(t, period.Calendar{}, 0)
	for c, wanted := range wrong() {
		for _, year := range []int{2024, 1899, 2200, math.MinInt} {
			l, e := c.Year(year)
			if len(l) != 0 || e != wanted {
				t.Errorf("%v: Year(%d): %v, error %d; wanted error %d", c, year, l, e, wanted)
			}
		}
		for _, d := range []api.Day{0, firstDay, lastDay, lastDay + 1, math.MinInt} {
			p, e := c.Find(d)
			checkNone(t, fmt.Sprint(c, " Find ", d), p, e, wanted)
		}
		for _, p := range []period.Period{{}, right} {
			n, e := c.Next(p)
			checkNone(t, fmt.Sprint(c, " Next ", p), n, e, wanted)
		}
	}
}

func TestP6_1Examples(t *testing.T) {
	monthly := period.Calendar{Lag: 5}
	p := find(t, monthly, day(2024, 2, 10))
	check(t, "a month", p, period.Period{Year: 2024, Index: 2, Of: 12, Span: api.Span{From: day(2024, 2, 1), To: day(2024, 3, 1)}, Pay: day(2024, 3, 5)})
	n, e := monthly.Next(p)
	check(t, "the next month", n, period.Period{Year: 2024, Index: 3, Of: 12, Span: api.Span{From: day(2024, 3, 1), To: day(2024, 4, 1)}, Pay: day(2024, 4, 5)})
	check(t, "its error", e, api.OK)

	p = find(t, period.Calendar{Kind: period.Biweekly, First: day(2024, 1, 1)}, day(2024, 12, 31))
	check(t, "over the year's end", p, period.Period{Year: 2025, Index: 1, Of: 26, Span: api.Span{From: day(2024, 12, 30), To: day(2025, 1, 13)}, Pay: day(2025, 1, 12)})

	l, e := period.Calendar{Kind: period.Biweekly, First: day(2023, 12, 25)}.Year(2024)
	check(t, "error of 2024", e, api.OK)
	check(t, "periods of 2024", len(l), 26)
	check(t, "the first one", l[0], period.Period{Year: 2024, Index: 1, Of: 26, Span: api.Span{From: day(2023, 12, 25), To: day(2024, 1, 8)}, Pay: day(2024, 1, 7)})
	check(t, "the last one", l[25], period.Period{Year: 2024, Index: 26, Of: 26, Span: api.Span{From: day(2024, 12, 9), To: day(2024, 12, 23)}, Pay: day(2024, 12, 22)})
}

func TestP6_1MoreInAYear(t *testing.T) {
	for _, x := range []struct {
		kind   int
		last   api.Day // of a period
		year   int
		wanted int
	}{
		{period.Biweekly, day(2024, 1, 1), 2024, 27}, // up to 2024-12-30
		{period.Biweekly, day(2024, 1, 2), 2024, 27}, // up to 2024-12-31
		{period.Biweekly, day(2024, 1, 3), 2024, 26},
		{period.Biweekly, day(2023, 1, 1), 2023, 27},
		{period.Biweekly, day(2023, 1, 2), 2023, 26},
		{period.Fourweekly, day(2024, 1, 1), 2024, 14},
		{period.Fourweekly, day(2024, 1, 2), 2024, 14},
		{period.Fourweekly, day(2024, 1, 3), 2024, 13},
		{period.Fourweekly, day(2023, 1, 1), 2023, 14},
		{period.Fourweekly, day(2023, 1, 2), 2023, 13},
	} {
		l, e := period.Calendar{Kind: x.kind, First: x.last + 1}.Year(x.year)
		check(t, "error", e, api.OK)
		check(t, fmt.Sprint("periods of ", x), len(l), x.wanted)
		check(t, fmt.Sprint("the first one's last day ", x), l[0].Span.To-1, x.last)
	}
}

func TestP6_1YearByWords(t *testing.T) {
	for _, c := range calendars() {
		byYear := map[int][]period.Period{}
		for _, p := range allByWords(c) {
			byYear[p.Year] = append(byYear[p.Year], p)
		}
		for year := 1900; year <= 2199; year++ {
			l, e := c.Year(year)
			if e != api.OK || !slices.Equal(l, byYear[year]) {
				t.Errorf("%v: Year(%d): %v, error %d; wanted %v", c, year, l, e, byYear[year])
			}
		}
	}
}

func TestP6_1YearBeyond(t *testing.T) {
	for _, c := range calendars() {
		for _, year := range []int{1899, 2200, 0, -1, -2024, math.MinInt, math.MaxInt} {
			l, e := c.Year(year)
			if len(l) != 0 || e != api.ErrRange {
				t.Errorf("%v: Year(%d): %v, error %d", c, year, l, e)
			}
		}
	}
}

// TestP6_1FindEveryDay also holds that a day near the ends that no period has is ErrNone, and P6.3's that each of a period's days is found in it.
func TestP6_1FindEveryDay(t *testing.T) {
	for i, c := range calendars() {
		l := allByWords(c)
		at := 0
		for d := firstDay; d <= lastDay; d++ {
			if middle := d > firstDay+800 && d < lastDay-800; middle && i > 0 && int(d)%11 != 0 {
				continue // of all days one calendar's are enough
			}
			for at < len(l) && l[at].Span.To <= d {
				at++
			}
			p, e := c.Find(d)
			if at == len(l) || d < l[at].Span.From {
				checkNone(t, fmt.Sprint(c, " Find ", d), p, e, api.ErrNone)
			} else if p != l[at] || e != api.OK {
				t.Errorf("%v: Find(%d): %v, error %d; wanted %v", c, d, p, e, l[at])
			}
		}
	}
}

func TestP6_1FindNearTheEnds(t *testing.T) {
	for _, x := range []struct {
		c     period.Calendar
		d     api.Day
		e     api.Errno
		first api.Day
	}{
		{period.Calendar{}, firstDay, api.OK, firstDay},
		{period.Calendar{}, lastDay, api.OK, lastDay - 30},
		{period.Calendar{Kind: period.Biweekly, First: firstDay}, firstDay, api.OK, firstDay},
		{period.Calendar{Kind: period.Biweekly, First: firstDay + 1}, firstDay, api.ErrNone, 0},
		{period.Calendar{Kind: period.Biweekly, First: firstDay + 1}, firstDay + 1, api.OK, firstDay + 1},
		{period.Calendar{Kind: period.Biweekly, First: firstDay + 13}, firstDay + 12, api.ErrNone, 0},
		{period.Calendar{Kind: period.Biweekly, First: firstDay + 13}, firstDay + 13, api.OK, firstDay + 13},
		{period.Calendar{Kind: period.Biweekly, First: firstDay + 14}, firstDay, api.OK, firstDay},
		{period.Calendar{Kind: period.Biweekly, First: lastDay - 13}, lastDay, api.OK, lastDay - 13},
		{period.Calendar{Kind: period.Biweekly, First: lastDay - 12}, lastDay, api.ErrNone, 0},
		{period.Calendar{Kind: period.Biweekly, First: lastDay - 12}, lastDay - 12, api.ErrNone, 0},
		{period.Calendar{Kind: period.Biweekly, First: lastDay - 12}, lastDay - 13, api.OK, lastDay - 26},
		{period.Calendar{Kind: period.Biweekly, First: lastDay}, lastDay, api.ErrNone, 0},
		{period.Calendar{Kind: period.Biweekly, First: lastDay}, lastDay - 1, api.OK, lastDay - 14},
		{period.Calendar{Kind: period.Fourweekly, First: firstDay + 27}, firstDay + 26, api.ErrNone, 0},
		{period.Calendar{Kind: period.Fourweekly, First: firstDay + 28}, firstDay + 27, api.OK, firstDay},
		{period.Calendar{Kind: period.Fourweekly, First: lastDay - 27}, lastDay, api.OK, lastDay - 27},
		{period.Calendar{Kind: period.Fourweekly, First: lastDay - 26}, lastDay - 26, api.ErrNone, 0},
		{period.Calendar{Kind: period.Fourweekly, First: lastDay - 26}, lastDay - 27, api.OK, lastDay - 54},
	} {
		p, e := x.c.Find(x.d)
		check(t, fmt.Sprint("error of ", x.c, " Find ", x.d), e, x.e)
		check(t, fmt.Sprint(x.c, " Find ", x.d), p.Span.From, x.first)
	}
	for _, c := range calendars() {
		for _, d := range []api.Day{firstDay - 1, lastDay + 1, firstDay - 14, lastDay + 28, math.MinInt, math.MaxInt} {
			p, e := c.Find(d)
			checkNone(t, fmt.Sprint(c, " Find ", d), p, e, api.ErrDay)
		}
	}
}

func TestP6_1Pay(t *testing.T) {
	for _, x := range []struct {
		c      period.Calendar
		d      api.Day
		wanted api.Day
	}{
		{period.Calendar{}, day(2024, 2, 10), day(2024, 2, 29)},
		{period.Calendar{Lag: 60}, day(2023, 12, 1), day(2024, 2, 29)},
		{period.Calendar{}, lastDay, lastDay},
		{period.Calendar{Lag: 1}, lastDay, lastDay},
		{period.Calendar{Lag: 60}, lastDay, lastDay},
		{period.Calendar{Lag: 31}, day(2199, 11, 30), lastDay},
		{period.Calendar{Lag: 32}, day(2199, 11, 30), lastDay},
		{period.Calendar{Lag: 30}, day(2199, 11, 30), lastDay - 1},
		{period.Calendar{Kind: period.Biweekly, First: lastDay - 14, Lag: 1}, lastDay - 1, lastDay},
		{period.Calendar{Kind: period.Biweekly, First: lastDay - 14, Lag: 2}, lastDay - 1, lastDay},
		{period.Calendar{Kind: period.Fourweekly, First: 0, Lag: 3}, 0, 30},
	} {
		check(t, fmt.Sprint("when ", x.c, " pays for ", x.d), find(t, x.c, x.d).Pay, x.wanted)
	}
}

func TestP6_1Next(t *testing.T) {
	for _, c := range calendars() {
		l := allByWords(c)
		for i, p := range l[:len(l)-1] {
			n, e := c.Next(p)
			if n != l[i+1] || e != api.OK {
				t.Errorf("%v: Next(%v): %v, error %d; wanted %v", c, p, n, e, l[i+1])
			}
		}
		n, e := c.Next(l[len(l)-1])
		checkNone(t, fmt.Sprint(c, " Next of the last one"), n, e, api.ErrNone)
	}
}

func TestP6_1NextOfNone(t *testing.T) {
	for _, c := range calendars() {
		strange := altered(find(t, c, 40000))
		strange = append(strange, altered(find(t, c, firstDay+60))...)
		strange = append(strange, altered(find(t, c, lastDay-60))...)
		strange = append(strange, period.Period{}, period.Period{Span: api.Span{From: math.MinInt, To: math.MaxInt}}, period.Period{Span: api.Span{From: math.MaxInt, To: math.MinInt}})
		for _, p := range strange {
			n, e := c.Next(p)
			checkNone(t, fmt.Sprint(c, " Next ", p), n, e, api.ErrNone)
		}
	}
	monthly, later := period.Calendar{}, period.Calendar{Lag: 1}
	n, e := later.Next(find(t, monthly, 0))
	checkNone(t, "Next of another calendar's", n, e, api.ErrNone)
	biweekly := period.Calendar{Kind: period.Biweekly, First: 0}
	n, e = biweekly.Next(find(t, period.Calendar{Kind: period.Biweekly, First: 7}, 0))
	checkNone(t, "Next of one a week aside", n, e, api.ErrNone)
	n, e = biweekly.Next(find(t, period.Calendar{Kind: period.Fourweekly, First: 0}, 0))
	checkNone(t, "Next of another kind's", n, e, api.ErrNone)
	_, e = biweekly.Next(find(t, period.Calendar{Kind: period.Biweekly, First: -14 * 9}, 0))
	check(t, "Next of one of the same days", e, api.OK)
}

func TestP6_2Count(t *testing.T) {
	for _, c := range calendars() {
		l := allByWords(c)
		places := []int{0, 1, 2, 11, 12, 25, 26, 27, 53, len(l) / 2, len(l) - 2, len(l) - 1}
		for _, i := range places {
			for _, j := range places {
				check(t, fmt.Sprint(c, " Count ", l[i], l[j]), c.Count(l[i], l[j]), j-i)
			}
		}
		for i := 0; i < len(l)-1; i += 5 {
			if c.Count(l[i], l[i]) != 0 || c.Count(l[i], l[i+1]) != 1 || c.Count(l[i+1], l[i]) != -1 {
				t.Errorf("%v: Count near %v", c, l[i])
			}
		}
	}
}

func TestP6_2CountOfNone(t *testing.T) {
	for _, c := range calendars() {
		p, far := find(t, c, 40000), find(t, c, 0)
		for _, q := range append(altered(p), period.Period{}, period.Period{Span: api.Span{From: math.MinInt}}, period.Period{Span: api.Span{From: lastDay + 1}}) {
			check(t, fmt.Sprint(c, " Count ", far, q), c.Count(far, q), 0)
			check(t, fmt.Sprint(c, " Count ", q, far), c.Count(q, far), 0)
			check(t, fmt.Sprint(c, " Count ", q, q), c.Count(q, q), 0)
		}
	}
	a, b := find(t, period.Calendar{}, 0), find(t, period.Calendar{}, 4000)
	check(t, "Count by months", period.Calendar{}.Count(a, b), 131)
	check(t, "Count of months by another calendar", period.Calendar{Lag: 1}.Count(a, b), 0)
	for c := range wrong() {
		check(t, fmt.Sprint(c, " Count"), c.Count(a, b), 0)
	}
	for _, c := range []period.Calendar{{Kind: 3}, {Kind: -1}, {First: lastDay + 1}} { // in all else they are the months'
		check(t, fmt.Sprint(c, " Count"), c.Count(a, b), 0)
	}
}

func TestP6_2Less(t *testing.T) {
	for _, x := range []struct {
		a, b   period.Period
		wanted bool
	}{
		{period.Period{Year: 2023, Index: 12}, period.Period{Year: 2024, Index: 1}, true},
		{period.Period{Year: 2024, Index: 1}, period.Period{Year: 2023, Index: 12}, false},
		{period.Period{Year: 2024, Index: 1}, period.Period{Year: 2024, Index: 2}, true},
		{period.Period{Year: 2024, Index: 2}, period.Period{Year: 2024, Index: 1}, false},
		{period.Period{Year: 2024, Index: 2}, period.Period{Year: 2024, Index: 2}, false},
		{period.Period{Year: 2024, Index: 2, Of: 1, Pay: 1}, period.Period{Year: 2024, Index: 2, Of: 2, Pay: 2, Span: api.Span{From: 5, To: 9}}, false},
		{period.Period{Year: 2024, Index: 2, Of: 9, Pay: 9, Span: api.Span{From: 5, To: 9}}, period.Period{Year: 2024, Index: 3}, true},
		{period.Period{}, period.Period{}, false},
		{period.Period{Year: -1}, period.Period{}, true},
		{period.Period{Year: -1, Index: -2}, period.Period{Year: -1, Index: -1}, true},
		{period.Period{Year: math.MinInt, Index: math.MaxInt}, period.Period{Year: math.MaxInt, Index: math.MinInt}, true},
		{period.Period{Year: math.MaxInt, Index: math.MinInt}, period.Period{Year: math.MinInt, Index: math.MaxInt}, false},
		{period.Period{Index: math.MinInt}, period.Period{Index: math.MaxInt}, true},
		{period.Period{Index: math.MaxInt}, period.Period{Index: math.MinInt}, false},
	} {
		check(t, fmt.Sprint("Less ", x.a, x.b), period.Less(x.a, x.b), x.wanted)
	}
}

func TestP6_2LessAsDaysRise(t *testing.T) {
	for _, c := range calendars() {
		l := allByWords(c)
		for i := range l[:len(l)-1] {
			if !period.Less(l[i], l[i+1]) || period.Less(l[i+1], l[i]) || period.Less(l[i], l[i]) {
				t.Errorf("%v: Less near %v", c, l[i])
			}
		}
	}
}

func TestP6_2Text(t *testing.T) {
	for _, x := range []struct {
		year, index int
		wanted      string
	}{
		{2024, 7, "2024/07"},
		{2024, 1, "2024/01"},
		{2024, 9, "2024/09"},
		{2024, 10, "2024/10"},
		{2024, 27, "2024/27"},
		{2024, 100, "2024/100"},
		{2024, 0, "2024/00"},
		{2024, -1, "2024/-1"},
		{2024, -9, "2024/-9"},
		{2024, -10, "2024/-10"},
		{0, 0, "0/00"},
		{7, 12, "7/12"},
		{-7, 3, "-7/03"},
		{-2024, -12, "-2024/-12"},
		{math.MaxInt, math.MaxInt, "9223372036854775807/9223372036854775807"},
		{math.MinInt, math.MinInt, "-9223372036854775808/-9223372036854775808"},
	} {
		p := period.Period{Year: x.year, Index: x.index, Of: 3, Span: api.Span{From: 4, To: 5}, Pay: 6}
		check(t, fmt.Sprint("Text ", x), p.Text(), x.wanted)
	}
}

func TestP6_3OneBehindTheOther(t *testing.T) {
	for _, c := range calendars() {
		var ahead period.Period
		for year := 1900; year <= 2199; year++ {
			l, e := c.Year(year)
			if e != api.OK || len(l) == 0 {
				t.Fatalf("%v: Year(%d): error %d", c, year, e)
			}
			for i, p := range l {
				if p.Year != year || p.Index != i+1 || p.Of != len(l) {
					t.Errorf("%v: %v is the number %d of %d", c, p, i+1, len(l))
				}
				if ahead != (period.Period{}) {
					n, e := c.Next(ahead)
					if p.Span.From != ahead.Span.To || n != p || e != api.OK {
						t.Errorf("%v: behind %v: %v, error %d; wanted %v", c, ahead, n, e, p)
					}
				}
				for _, d := range []api.Day{p.Span.From, p.Span.To - 1} {
					check(t, fmt.Sprint(c, " Find ", d), find(t, c, d), p)
				}
				ahead = p
			}
		}
	}
}

// TestMemory: what is done with an answer is seen in no other one.
func TestMemory(t *testing.T) {
	for _, c := range calendars() {
		first, _ := c.Year(2024)
		second, _ := c.Year(2024)
		clear(first)
		third, _ := c.Year(2024)
		if !slices.Equal(second, third) || second[0].Year != 2024 {
			t.Errorf("%v: answers share memory: %v", c, second)
		}
	}
}

// TestP1NoPanic hands each call what is farthest out.
func TestP1NoPanic(t *testing.T) {
	edges := []int{math.MinInt, math.MinInt + 1, -1, 0, 1, 2, 3, 60, 61, 1900, 2199, int(firstDay), int(lastDay), math.MaxInt - 1, math.MaxInt}
	for _, a := range edges {
		for _, b := range edges {
			for _, d := range edges {
				c := period.Calendar{Kind: a, First: api.Day(b), Lag: d}
				p := period.Period{Year: d, Index: b, Of: a, Span: api.Span{From: api.Day(b), To: api.Day(d)}, Pay: api.Day(a)}
				c.Check()
				c.Year(d)
				c.Find(api.Day(d))
				c.Next(p)
				c.Count(p, period.Period{})
				period.Less(p, period.Period{})
				p.Text()
				for _, right := range calendars()[:6] {
					right.Year(d)
					right.Find(api.Day(d))
					right.Next(p)
					right.Count(p, p)
				}
			}
		}
	}
}
