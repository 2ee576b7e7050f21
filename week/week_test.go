package week_test

import (
	"fmt"
	"math"
	"math/rand"
	"regexp"
	"slices"
	"strconv"
	"strings"
	"testing"
	"time"

	"wagebook/api"
	"wagebook/week"
)

const (
	firstDay = api.Day(-25567) // 1900-01-01
	lastDay  = api.Day(84005)  // 2199-12-31
	leapDay  = api.Day(19782)  // 2024-02-29, a Thursday
)

// check fails the test, if something is another thing than was wanted.
func check[T comparable](t *testing.T, what string, got, wanted T) {
	t.Helper()
	if got != wanted {
		t.Errorf("%s: %v, wanted %v", what, got, wanted)
	}
}

// beyond are days that aren't in the calendar.
func beyond() []api.Day {
	return []api.Day{firstDay - 1, lastDay + 1, firstDay - 7, lastDay + 7, -1 << 31, 1<<31 - 1, math.MinInt, math.MinInt + 1, math.MaxInt - 1, math.MaxInt}
}

// rising are n days one behind the other.
func rising(from api.Day, n int) []api.Day {
	var l []api.Day
	for i := range n {
		l = append(l, from+api.Day(i))
	}
	return l
}

// wrong are patterns of each kind that isn't right.
func wrong() map[string]week.Pattern {
	full := week.Week{480, 480, 480, 480, 480, 480, 480}
	return map[string]week.Pattern{
		"too many minutes": {Week: week.Week{480, 480, 480, 480, 480, 480, 1441}},
		"minutes below 0":  {Week: week.Week{480, 480, 480, -1, 480, 480, 480}},
		"too many days":    {Week: full, Free: rising(0, api.MaxFacts+1)},
		"too early":        {Week: full, Free: []api.Day{firstDay - 1, 5}},
		"too late":         {Week: full, Free: []api.Day{5, lastDay + 1}},
		"a day twice":      {Week: full, Free: []api.Day{5, 7, 7}},
		"days that fall":   {Week: full, Free: []api.Day{5, 9, 7}},
	}
}

// onByWords is a right pattern's minutes on a day, by another calendar than the program's.
func onByWords(p week.Pattern, d api.Day) int {
	if d < firstDay || d > lastDay || slices.Contains(p.Free, d) {
		return 0
	}
	sunday0 := int(time.Unix(int64(d)*86400, 0).UTC().Weekday())
	return p.Week[(sunday0+6)%7]
}

// somePattern is a right pattern, with free days around those of a span that is tried.
func somePattern(r *rand.Rand, around api.Day) week.Pattern {
	var p week.Pattern
	for i := range p.Week {
		if r.Intn(3) > 0 {
			p.Week[i] = r.Intn(1441)
		}
	}
	for d := around - 15; d < around+15; d++ {
		if firstDay <= d && d <= lastDay && r.Intn(4) == 0 {
			p.Free = append(p.Free, d)
		}
	}
	return p
}

func TestP7_1Check(t *testing.T) {
	for i, x := range []struct {
		p      week.Pattern
		wanted api.Errno
	}{
		{week.Pattern{}, api.OK},
		{week.Pattern{Week: week.Week{1440, 1440, 1440, 1440, 1440, 1440, 1440}, Free: []api.Day{}}, api.OK},
		{week.Pattern{Free: []api.Day{firstDay}}, api.OK},
		{week.Pattern{Free: []api.Day{lastDay}}, api.OK},
		{week.Pattern{Free: []api.Day{firstDay, -1, 0, 1, lastDay}}, api.OK},
		{week.Pattern{Free: rising(firstDay, api.MaxFacts)}, api.OK},
		{week.Pattern{Free: rising(lastDay-api.MaxFacts+1, api.MaxFacts)}, api.OK},
		{week.Pattern{Free: rising(0, api.MaxFacts+1)}, api.ErrMany},
		{week.Pattern{Free: make([]api.Day, api.MaxFacts+1)}, api.ErrMany},
		{week.Pattern{Free: slices.Repeat([]api.Day{lastDay + 1}, api.MaxFacts+1)}, api.ErrMany},
		{week.Pattern{Free: []api.Day{firstDay - 1}}, api.ErrDay},
		{week.Pattern{Free: []api.Day{lastDay + 1}}, api.ErrDay},
		{week.Pattern{Free: []api.Day{0, 0}}, api.ErrOrder},
		{week.Pattern{Free: []api.Day{0, -1}}, api.ErrOrder},
		{week.Pattern{Free: []api.Day{1, 2, 4, 3, 5}}, api.ErrOrder},
		{week.Pattern{Free: []api.Day{1, 3, 2, lastDay + 1}}, api.ErrOrder}, // day by day, from the left
		{week.Pattern{Free: []api.Day{1, lastDay + 1, 0}}, api.ErrDay},
		{week.Pattern{Free: []api.Day{1, firstDay - 1}}, api.ErrDay}, // of one day ErrDay is ahead
		{week.Pattern{Free: []api.Day{lastDay + 1, lastDay + 1}}, api.ErrDay},
		{week.Pattern{Week: week.Week{1441}, Free: []api.Day{lastDay + 1}}, api.ErrRange},
		{week.Pattern{Week: week.Week{0, -1}, Free: []api.Day{5, 5}}, api.ErrRange},
		{week.Pattern{Week: week.Week{-1}, Free: rising(0, api.MaxFacts+1)}, api.ErrRange},
	} {
		check(t, fmt.Sprint("Check of ", i), x.p.Check(), x.wanted)
	}
	for _, d := range beyond() {
		check(t, fmt.Sprint("Check of free ", d), week.Pattern{Free: []api.Day{d}}.Check(), api.ErrDay)
	}
}

func TestP7_1AnyOfTheSeven(t *testing.T) {
	for weekday := range 7 {
		for minutes, wanted := range map[int]api.Errno{
			-1: api.ErrRange, 0: api.OK, 1: api.OK, 1439: api.OK, 1440: api.OK, 1441: api.ErrRange, math.MinInt: api.ErrRange, math.MaxInt: api.ErrRange,
		} {
			p := week.Pattern{Week: week.Week{480, 480, 480, 480, 480, 480, 480}}
			p.Week[weekday] = minutes
			check(t, fmt.Sprint("Check of ", p.Week), p.Check(), wanted)
		}
	}
}

func TestP7_1On(t *testing.T) {
	p := week.Pattern{Week: week.Week{1, 2, 3, 4, 5, 6, 7}, Free: []api.Day{firstDay, leapDay, leapDay + 2, lastDay}}
	for d, wanted := range map[api.Day]int{
		0: 4, 1: 5, -1: 3, 3: 7, 4: 1, leapDay - 3: 1, leapDay - 1: 3, leapDay: 0, leapDay + 1: 5, leapDay + 2: 0, leapDay + 3: 7, leapDay + 4: 1,
		firstDay: 0, firstDay + 1: 2, firstDay + 7: 1, lastDay: 0, lastDay - 1: 1, lastDay - 7: 2,
	} {
		check(t, fmt.Sprint("On ", d), p.On(d), wanted)
	}
	p.Free = nil
	check(t, "On the first day", p.On(firstDay), 1)
	check(t, "On the last day", p.On(lastDay), 2)
	for _, d := range beyond() {
		check(t, fmt.Sprint("On ", d), p.On(d), 0)
	}
	for what, q := range wrong() {
		for _, d := range []api.Day{0, 1, 2, 6, leapDay, firstDay, lastDay} {
			check(t, fmt.Sprint("On ", d, " of ", what), q.On(d), 0)
		}
	}
}

func TestP7_1OnEachDay(t *testing.T) {
	p := week.Pattern{Week: week.Week{1, 0, 3, 4, 0, 6, 7}, Free: []api.Day{firstDay + 1, -5000, -1, 0, 3, leapDay, lastDay}}
	for d := firstDay - 10; d <= lastDay+10; d++ {
		if got, wanted := p.On(d), onByWords(p, d); got != wanted {
			t.Fatalf("On %d: %d, wanted %d", d, got, wanted)
		}
	}
}

func TestP7_2Example(t *testing.T) {
	p := week.Pattern{Week: week.Week{480, 480, 480, 480, 480}, Free: []api.Day{leapDay}}
	s := api.Span{From: leapDay - 3, To: leapDay + 4}
	check(t, "Minutes", p.Minutes(s), 1920)
	check(t, "Days", p.Days(s), 4)
}

func TestP7_2Ends(t *testing.T) {
	p := week.Pattern{Week: week.Week{1, 10, 100, 1000, 0, 0, 1440}, Free: []api.Day{4}}
	for s, wanted := range map[api.Span][2]int{
		{}:                                     {0, 0},
		{From: 0, To: 1}:                       {1000, 1},
		{From: 0, To: 0}:                       {0, 0},
		{From: 1, To: 0}:                       {0, 0},
		{From: math.MaxInt, To: math.MinInt}:   {0, 0},
		{From: 1, To: 3}:                       {0, 0}, // a Friday and a Saturday
		{From: 1, To: 4}:                       {1440, 1},
		{From: 4, To: 5}:                       {0, 0}, // the free day
		{From: 3, To: 6}:                       {1450, 2},
		{From: math.MinInt, To: firstDay + 2}:  {11, 2},
		{From: math.MinInt, To: firstDay}:      {0, 0},
		{From: firstDay - 1, To: firstDay + 1}: {1, 1},
		{From: lastDay, To: math.MaxInt}:       {10, 1},
		{From: lastDay - 1, To: lastDay + 9}:   {11, 2},
		{From: lastDay + 1, To: math.MaxInt}:   {0, 0},
	} {
		check(t, fmt.Sprint("Minutes of ", s), p.Minutes(s), wanted[0])
		check(t, fmt.Sprint("Days of ", s), p.Days(s), wanted[1])
	}
	all := api.Span{From: math.MinInt, To: math.MaxInt} // 15653 weeks, a Monday and a Tuesday; the free day is a Monday
	check(t, "Minutes of all days", p.Minutes(all), 15653*2551+11-1)
	check(t, "Days of all days", p.Days(all), 15653*5+2-1)
	for what, q := range wrong() {
		check(t, "Minutes of "+what, q.Minutes(all), 0)
		check(t, "Days of "+what, q.Days(all), 0)
	}
	check(t, "Minutes of a week without any", week.Pattern{Free: []api.Day{4}}.Minutes(all), 0)
	check(t, "Days of a week without any", week.Pattern{}.Days(all), 0)
}

func TestP7_2DayByDay(t *testing.T) {
	r := rand.New(rand.NewSource(72))
	for range 20000 {
		around := []api.Day{0, leapDay, firstDay, lastDay}[r.Intn(4)]
		p := somePattern(r, around)
		s := api.Span{From: around + api.Day(r.Intn(40)-20), To: around + api.Day(r.Intn(40)-20)}
		minutes, days := 0, 0
		for d := s.From; d < s.To; d++ {
			minutes += onByWords(p, d)
			if onByWords(p, d) != 0 {
				days++
			}
		}
		check(t, fmt.Sprint("Minutes of ", s, " by ", p), p.Minutes(s), minutes)
		check(t, fmt.Sprint("Days of ", s, " by ", p), p.Days(s), days)
	}
}

func TestP7_2ManyFreeDays(t *testing.T) {
	p := week.Pattern{Week: week.Week{1, 1, 1, 1, 1, 1, 1}, Free: rising(100, api.MaxFacts)}
	check(t, "ahead and behind", p.Minutes(api.Span{From: 90, To: 100 + api.MaxFacts + 5}), 15)
	check(t, "within", p.Days(api.Span{From: 100, To: 100 + api.MaxFacts}), 0)
	check(t, "from the middle on", p.Days(api.Span{From: 2000, To: 100 + api.MaxFacts + 1}), 1)
}

func TestP7_3Text(t *testing.T) {
	for w, wanted := range map[week.Week]string{
		{}:                        "0 0 0 0 0 0 0",
		{480, 480, 480, 480, 240}: "480 480 480 480 240 0 0",
		{1, 2, 3, 4, 5, 6, 7}:     "1 2 3 4 5 6 7",
		{1440, 1440, 1440, 1440, 1440, 1440, 1440}: "1440 1440 1440 1440 1440 1440 1440",
		{0, 10, 100, 1000, 1439, 9, 90}:            "0 10 100 1000 1439 9 90",
		{1441}:                                     "",
		{-1}:                                       "",
		{0, 0, 0, 0, 0, 0, 1441}:                   "",
		{0, 0, 0, 0, 0, 0, -1}:                     "",
		{0, 0, 0, math.MinInt}:                     "",
		{0, 0, 0, math.MaxInt}:                     "",
	} {
		check(t, fmt.Sprint("Text of ", [7]int(w)), w.Text(), wanted)
		if wanted == "" {
			continue
		}
		back, e := week.Parse(wanted)
		check(t, "Parse "+wanted, back, w)
		check(t, "error of Parse "+wanted, e, api.OK)
	}
}

func TestP7_3ParseWrong(t *testing.T) {
	for s, wanted := range map[string]api.Errno{
		"":                                 api.ErrForm,
		" ":                                api.ErrForm,
		"      ":                           api.ErrForm,
		"480":                              api.ErrForm,
		"1 2 3 4 5 6":                      api.ErrForm,
		"1 2 3 4 5 6 ":                     api.ErrForm,
		"1 2 3 4 5 6 7 ":                   api.ErrForm,
		" 1 2 3 4 5 6 7":                   api.ErrForm,
		"1 2 3 4 5 6 7 8":                  api.ErrForm,
		"1  2 3 4 5 6 7":                   api.ErrForm,
		"1 2 3  4 5 6":                     api.ErrForm,
		"1,2 3 4 5 6 7":                    api.ErrForm,
		"1\t2 3 4 5 6 7":                   api.ErrForm,
		"1 2 3 4 5 6 7\n":                  api.ErrForm,
		"01 2 3 4 5 6 7":                   api.ErrForm,
		"1 2 3 4 5 6 00":                   api.ErrForm,
		"1 2 3 -4 5 6 7":                   api.ErrForm,
		"1 2 3 -0 5 6 7":                   api.ErrForm,
		"1 2 3 +4 5 6 7":                   api.ErrForm,
		"1 2 3 4.0 5 6 7":                  api.ErrForm,
		"1 2 3 0x4 5 6 7":                  api.ErrForm,
		"1 2 3 1_0 5 6 7":                  api.ErrForm,
		"1 2 3 a 5 6 7":                    api.ErrForm,
		"1 2 3 \u0664 5 6 7":               api.ErrForm, // a digit, but not in ASCII
		"1 2 3 \xff 5 6 7":                 api.ErrForm,
		"1441 2 3 4 5 6":                   api.ErrForm,
		"1441 2 3 4 5 6 x":                 api.ErrForm,
		"1441 2 3 4 5 6 7 8":               api.ErrForm,
		"99999999999 2 3 4 5 6 07":         api.ErrForm,
		"1441 2 3 4 5 6 7":                 api.ErrRange,
		"1 2 3 4 5 6 1441":                 api.ErrRange,
		"1 2 3 10000 5 6 7":                api.ErrRange,
		"1 2 3 4 5 6 18446744073709551616": api.ErrRange, // 2^64
		"18446744073709551617 2 3 4 5 6 7": api.ErrRange,
		"9223372036854775808 2 3 4 5 6 7":  api.ErrRange,
		"1 2 3 4 5 6 1" + strings.Repeat("0", 10000):      api.ErrRange,
		strings.Repeat("0 ", 10000) + "0":                 api.ErrForm,
		"0 0 0 0 0 0 " + strings.Repeat("0", 10000) + "1": api.ErrForm,
	} {
		w, e := week.Parse(s)
		check(t, fmt.Sprintf("error of Parse %.40q", s), e, wanted)
		check(t, fmt.Sprintf("Parse %.40q", s), w, week.Week{})
	}
}

// TestP7_3ParseByWords turns texts' bytes, and holds what is answered against a pattern of the texts.
func TestP7_3ParseByWords(t *testing.T) {
	r := rand.New(rand.NewSource(73))
	form := regexp.MustCompile(`^(0|[1-9][0-9]*)( (0|[1-9][0-9]*)){6}$`)
	for range 50000 {
		var fields []string
		for range 7 - r.Intn(9)/8 {
			fields = append(fields, strconv.Itoa([]int{0, 7, 60, 480, 1439, 1440, 1441, 14400}[r.Intn(8)]))
		}
		s := []byte(strings.Join(fields, " "))
		for range r.Intn(3) {
			s[r.Intn(len(s))] = " 0123456789-+x"[r.Intn(14)]
		}
		wanted := api.OK
		if !form.Match(s) {
			wanted = api.ErrForm
		} else if slices.ContainsFunc(strings.Fields(string(s)), func(f string) bool { return len(f) > 4 || len(f) == 4 && f > "1440" }) {
			wanted = api.ErrRange
		}
		w, e := week.Parse(string(s))
		check(t, fmt.Sprintf("error of Parse %q", s), e, wanted)
		if e == api.OK {
			check(t, "Text of what was read", w.Text(), string(s))
		} else {
			check(t, fmt.Sprintf("Parse %q", s), w, week.Week{})
		}
	}
}

func TestP7_4MeetingSpans(t *testing.T) {
	r := rand.New(rand.NewSource(74))
	for range 5000 {
		p := somePattern(r, leapDay)
		at := []api.Day{leapDay - api.Day(r.Intn(20)), leapDay + api.Day(r.Intn(5)), leapDay + 5 + api.Day(r.Intn(20))}
		left, right, both := api.Span{From: at[0], To: at[1]}, api.Span{From: at[1], To: at[2]}, api.Span{From: at[0], To: at[2]}
		check(t, fmt.Sprint("Minutes of both ", at), p.Minutes(left)+p.Minutes(right), p.Minutes(both))
		check(t, fmt.Sprint("Days of both ", at), p.Days(left)+p.Days(right), p.Days(both))
	}
}

func TestP7_4OneFreeDayMore(t *testing.T) {
	r := rand.New(rand.NewSource(47))
	s := api.Span{From: leapDay - 20, To: leapDay + 20}
	for range 5000 {
		p := somePattern(r, leapDay)
		d := leapDay + api.Day(r.Intn(40)-20)
		at, is := slices.BinarySearch(p.Free, d)
		if is {
			continue
		}
		more := week.Pattern{Week: p.Week, Free: slices.Insert(slices.Clone(p.Free), at, d)}
		check(t, fmt.Sprint("less by free ", d), p.Minutes(s)-more.Minutes(s), p.On(d))
	}
}

// TestMemory: a pattern's free days stay as they are, with the spare room behind them.
func TestMemory(t *testing.T) {
	room := []api.Day{3, leapDay, leapDay + 1, -9, 77}
	before := slices.Clone(room)
	p := week.Pattern{Week: week.Week{1, 2, 3, 4, 5, 6, 7}, Free: room[:3]}
	s := api.Span{From: 0, To: leapDay + 10}
	for range 2 {
		check(t, "Check", p.Check(), api.OK)
		check(t, "Days", p.Days(s), int(leapDay)+10-3)
		check(t, "Minutes on free days", p.Minutes(api.Span{From: leapDay, To: leapDay + 2})+p.On(3), 0)
	}
	if !slices.Equal(room, before) || len(p.Free) != 3 {
		t.Error("the free days were changed", room)
	}
}

// TestP1NoPanic hands each call what is farthest out.
func TestP1NoPanic(t *testing.T) {
	days := append(beyond(), 0, firstDay, lastDay)
	for _, minutes := range []int{math.MinInt, -1, 0, 1440, 1441, math.MaxInt} {
		for _, a := range days {
			for _, b := range days {
				p := week.Pattern{Week: week.Week{minutes, 1, 1, 1, 1, 1, minutes}, Free: []api.Day{a, b}}
				right := p.Check() == api.OK
				p.Week.Text()
				if !right && (p.On(a) != 0 || p.Minutes(api.Span{From: a, To: b}) != 0 || p.Days(api.Span{From: a, To: b}) != 0) {
					t.Errorf("what isn't right has minutes: %v", p)
				}
			}
		}
	}
}
