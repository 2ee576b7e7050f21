package civil_test

import (
	"fmt"
	"math"
	"strings"
	"testing"
	"time"

	"wagebook/api"
	"wagebook/civil"
)

const (
	firstDay = api.Day(-25567)
	lastDay  = api.Day(84005)
)

// beyond are days that aren't in the calendar.
func beyond() []api.Day {
	return []api.Day{firstDay - 1, lastDay + 1, firstDay - 366, lastDay + 366, -1 << 31, 1<<31 - 1, math.MinInt, math.MinInt + 1, math.MaxInt - 1, math.MaxInt}
}

// check fails the test, if something is another thing than was wanted.
func check[T comparable](t *testing.T, what string, got, wanted T) {
	t.Helper()
	if got != wanted {
		t.Errorf("%s: %v, wanted %v", what, got, wanted)
	}
}

// everyDay calls f with each day of the calendar and its date by another reckoning.
func everyDay(f func(d api.Day, at time.Time)) {
	at := time.Date(1900, 1, 1, 0, 0, 0, 0, time.UTC)
	for d := firstDay; d <= lastDay; d++ {
		f(d, at)
		at = at.AddDate(0, 0, 1)
	}
}

// dateOf is a time's date.
func dateOf(at time.Time) civil.Date {
	return civil.Date{Year: at.Year(), Month: int(at.Month()), Day: at.Day()}
}

// dayOf is the day of a text that is known to be right.
func dayOf(t *testing.T, text string) api.Day {
	t.Helper()
	d, e := civil.Parse(text)
	if e != api.OK {
		t.Fatalf("Parse(%q): error %d", text, e)
	}
	return d
}

func TestP4_1Known(t *testing.T) {
	for _, x := range []struct {
		d       api.Day
		date    civil.Date
		weekday int
	}{
		{0, civil.Date{Year: 1970, Month: 1, Day: 1}, 3},
		{1, civil.Date{Year: 1970, Month: 1, Day: 2}, 4},
		{-1, civil.Date{Year: 1969, Month: 12, Day: 31}, 2},
		{3, civil.Date{Year: 1970, Month: 1, Day: 4}, 6},
		{4, civil.Date{Year: 1970, Month: 1, Day: 5}, 0},
		{19782, civil.Date{Year: 2024, Month: 2, Day: 29}, 3},
		{19783, civil.Date{Year: 2024, Month: 3, Day: 1}, 4},
		{11016, civil.Date{Year: 2000, Month: 2, Day: 29}, 1},
		{11017, civil.Date{Year: 2000, Month: 3, Day: 1}, 2},
		{firstDay, civil.Date{Year: 1900, Month: 1, Day: 1}, 0},
		{firstDay + 58, civil.Date{Year: 1900, Month: 2, Day: 28}, 2},
		{firstDay + 59, civil.Date{Year: 1900, Month: 3, Day: 1}, 3},
		{lastDay, civil.Date{Year: 2199, Month: 12, Day: 31}, 1},
	} {
		d, e := civil.Of(x.date)
		check(t, fmt.Sprint("Of ", x.date), d, x.d)
		check(t, fmt.Sprint("error of Of ", x.date), e, api.OK)
		check(t, fmt.Sprint("To ", x.d), civil.To(x.d), x.date)
		check(t, fmt.Sprint("Weekday ", x.d), civil.Weekday(x.d), x.weekday)
	}
}

func TestP4_1EveryDay(t *testing.T) {
	everyDay(func(d api.Day, at time.Time) {
		date := dateOf(at)
		got, e := civil.Of(date)
		check(t, fmt.Sprint("Of ", date), got, d)
		check(t, fmt.Sprint("error of Of ", date), e, api.OK)
		check(t, fmt.Sprint("To ", d), civil.To(d), date)
		check(t, fmt.Sprint("Weekday ", d), civil.Weekday(d), (int(at.Weekday())+6)%7)
	})
}

func TestP4_1OfNoDate(t *testing.T) {
	for _, d := range []civil.Date{
		{}, {Year: 2023, Month: 2, Day: 29}, {Year: 2024, Month: 2, Day: 30}, {Year: 1900, Month: 2, Day: 29}, {Year: 2100, Month: 2, Day: 29},
		{Year: 2000, Month: 2, Day: 30}, {Year: 2024, Month: 1, Day: 32}, {Year: 2024, Month: 4, Day: 31}, {Year: 2024, Month: 6, Day: 31},
		{Year: 2024, Month: 9, Day: 31}, {Year: 2024, Month: 11, Day: 31}, {Year: 2024, Month: 12, Day: 32},
		{Year: 2024, Month: 1, Day: 0}, {Year: 2024, Month: 3, Day: -1}, {Year: 2024, Month: 0, Day: 1}, {Year: 2024, Month: 13, Day: 1},
		{Year: 2024, Month: 0, Day: 0}, {Year: 2024, Month: -1, Day: 1}, {Year: 1899, Month: 12, Day: 31}, {Year: 2200, Month: 1, Day: 1},
		{Year: 0, Month: 1, Day: 1}, {Year: -2024, Month: 1, Day: 1}, {Year: 24, Month: 1, Day: 1}, {Year: 2024, Month: 12, Day: math.MaxInt},
		{Year: 2024, Month: 12, Day: math.MinInt}, {Year: 2024, Month: math.MaxInt, Day: 1}, {Year: 2024, Month: math.MinInt, Day: 1},
		{Year: math.MaxInt, Month: 1, Day: 1}, {Year: math.MinInt, Month: 1, Day: 1}, {Year: math.MinInt, Month: math.MinInt, Day: math.MinInt},
	} {
		got, e := civil.Of(d)
		check(t, fmt.Sprint("Of ", d), got, 0)
		check(t, fmt.Sprint("error of Of ", d), e, api.ErrDay)
	}
}

func TestP4_1BeyondTheCalendar(t *testing.T) {
	for _, d := range beyond() {
		check(t, fmt.Sprint("To ", d), civil.To(d), civil.Date{})
		check(t, fmt.Sprint("Weekday ", d), civil.Weekday(d), -1)
	}
}

func TestP4_1MonthDays(t *testing.T) {
	for year := 1900; year <= 2199; year++ {
		for month := 1; month <= 12; month++ {
			last := time.Date(year, time.Month(month+1), 0, 0, 0, 0, 0, time.UTC)
			check(t, fmt.Sprint("MonthDays ", year, month), civil.MonthDays(year, month), last.Day())
		}
	}
	for year, wanted := range map[int]int{1900: 28, 1904: 29, 2000: 29, 2023: 28, 2024: 29, 2096: 29, 2100: 28, 2104: 29, 2196: 29, 2199: 28} {
		check(t, fmt.Sprint("February of ", year), civil.MonthDays(year, 2), wanted)
	}
	for _, x := range [][2]int{
		{2024, 0}, {2024, 13}, {2024, -1}, {2024, math.MaxInt}, {2024, math.MinInt}, {1899, 12}, {2200, 1}, {1899, 2}, {2200, 2},
		{0, 1}, {-4, 2}, {math.MaxInt, 1}, {math.MinInt, 2}, {math.MinInt, math.MaxInt}, {0, 0},
	} {
		check(t, fmt.Sprint("MonthDays ", x), civil.MonthDays(x[0], x[1]), 0)
	}
}

func TestP4_2AddMonths(t *testing.T) {
	for _, x := range []struct {
		from   string
		n      int
		wanted string
	}{
		{"2024-02-29", 12, "2025-02-28"},
		{"2024-02-29", 48, "2028-02-29"},
		{"2024-02-29", -12, "2023-02-28"},
		{"2024-02-29", -1, "2024-01-29"},
		{"2024-02-29", 0, "2024-02-29"},
		{"2024-01-31", 1, "2024-02-29"},
		{"2023-01-31", 1, "2023-02-28"},
		{"2023-01-29", 1, "2023-02-28"},
		{"2023-01-28", 1, "2023-02-28"},
		{"2024-01-31", 3, "2024-04-30"},
		{"2024-03-31", -1, "2024-02-29"},
		{"2024-05-31", -6, "2023-11-30"},
		{"2024-12-15", 1, "2025-01-15"},
		{"2024-01-15", -1, "2023-12-15"},
		{"2024-01-15", 11, "2024-12-15"},
		{"2024-12-15", -11, "2024-01-15"},
		{"2024-06-30", 12, "2025-06-30"},
		{"2000-02-29", 1200, "2100-02-28"},
		{"2000-02-29", -1200, "1900-02-28"},
		{"1900-01-31", 3599, "2199-12-31"},
		{"1900-01-01", 3599, "2199-12-01"},
		{"1900-01-31", 3600, "2199-12-31"},
		{"1900-01-01", 3600, "2199-12-31"},
		{"2199-12-05", -3599, "1900-01-05"},
		{"2199-12-31", -3599, "1900-01-31"},
		{"2199-12-31", -3600, "1900-01-01"},
		{"1900-01-20", -1, "1900-01-01"},
		{"1900-02-20", -1, "1900-01-20"},
		{"1900-02-20", -2, "1900-01-01"},
		{"2199-12-20", 1, "2199-12-31"},
		{"2199-12-20", 0, "2199-12-20"},
		{"2199-11-20", 1, "2199-12-20"},
		{"2199-11-20", 2, "2199-12-31"},
		{"1970-01-01", 5000, "2199-12-31"},
		{"1970-01-01", -5000, "1900-01-01"},
		{"1970-01-01", math.MaxInt, "2199-12-31"},
		{"1970-01-01", math.MinInt, "1900-01-01"},
		{"2199-12-31", math.MaxInt, "2199-12-31"},
		{"2199-12-31", math.MinInt, "1900-01-01"},
		{"1900-01-01", math.MaxInt, "2199-12-31"},
		{"1900-01-01", math.MinInt, "1900-01-01"},
	} {
		got := civil.Text(civil.AddMonths(dayOf(t, x.from), x.n))
		check(t, fmt.Sprintf("%s and %d months", x.from, x.n), got, x.wanted)
	}
}

func TestP4_2AddMonthsByAnotherReckoning(t *testing.T) {
	everyDay(func(d api.Day, at time.Time) {
		for _, n := range []int{-1201, -13, -12, -1, 0, 1, 2, 11, 12, 13, 1199} {
			end := time.Date(at.Year(), at.Month()+time.Month(n)+1, 0, 0, 0, 0, 0, time.UTC)
			wanted := civil.Date{Year: end.Year(), Month: int(end.Month()), Day: min(at.Day(), end.Day())}
			if end.Year() < 1900 {
				wanted = civil.Date{Year: 1900, Month: 1, Day: 1}
			} else if end.Year() > 2199 {
				wanted = civil.Date{Year: 2199, Month: 12, Day: 31}
			}
			check(t, fmt.Sprint(dateOf(at), " and ", n), civil.To(civil.AddMonths(d, n)), wanted)
		}
	})
}

func TestP4_2BeyondTheCalendar(t *testing.T) {
	for _, d := range beyond() {
		for _, n := range []int{math.MinInt, -12, -1, 0, 1, 12, math.MaxInt} {
			check(t, fmt.Sprint("AddMonths ", d, n), civil.AddMonths(d, n), d)
		}
	}
}

func TestP4_3Text(t *testing.T) {
	for d, wanted := range map[api.Day]string{
		0: "1970-01-01", -1: "1969-12-31", 19782: "2024-02-29", 11017: "2000-03-01", firstDay: "1900-01-01", lastDay: "2199-12-31", 19639: "2023-10-09",
	} {
		check(t, fmt.Sprint("Text ", d), civil.Text(d), wanted)
		got, e := civil.Parse(wanted)
		check(t, "Parse "+wanted, got, d)
		check(t, "error of Parse "+wanted, e, api.OK)
	}
	for _, d := range beyond() {
		check(t, fmt.Sprint("Text ", d), civil.Text(d), "")
	}
}

func TestP4_3EveryDay(t *testing.T) {
	everyDay(func(d api.Day, at time.Time) {
		text := at.Format("2006-01-02")
		check(t, fmt.Sprint("Text ", d), civil.Text(d), text)
		got, e := civil.Parse(text)
		check(t, "Parse "+text, got, d)
		check(t, "error of Parse "+text, e, api.OK)
	})
}

// parseNone fails the test, if a text isn't refused with that error.
func parseNone(t *testing.T, s string, wanted api.Errno) {
	t.Helper()
	got, e := civil.Parse(s)
	check(t, fmt.Sprintf("Parse(%.60q)", s), got, 0)
	check(t, fmt.Sprintf("error of Parse(%.60q)", s), e, wanted)
}

func TestP4_3ParseNoDay(t *testing.T) {
	for _, s := range []string{
		"2023-02-29", "1900-02-29", "2100-02-29", "2024-02-30", "2000-02-30", "2024-01-32", "2024-04-31", "2024-06-31", "2024-09-31", "2024-11-31",
		"2024-01-00", "2024-00-01", "2024-00-00", "2024-13-01", "2024-99-99", "2024-12-99", "1899-12-31", "2200-01-01", "0000-00-00", "0000-01-01", "9999-12-31", "0024-02-29",
	} {
		parseNone(t, s, api.ErrDay)
	}
}

func TestP4_3ParseNoForm(t *testing.T) {
	for _, s := range []string{
		"", "-", "--", "2024", "2024-", "2024-01", "2024-01-", "2024-01-1", "2024-1-01", "2024-01-011", "024-01-01", "24-01-01", "02024-01-01", "12024-01-01",
		"2024/01/01", "2024-01/01", "2024/01-01", "2024.01.01", "20240101", "2024-0101", "202401-01", "2024 01 01", "2024001001", "2024-01001",
		"2024-01-0x", "2024-0x-01", "x024-01-01", "202x-01-01", "2024-01--1", "2024--1-01", "-024-01-01", "+024-01-01", "2024-+1-01", "2024-01-+1", "2024- 1-01", "2024-01- 1",
		" 2024-01-01", "2024-01-01 ", "2024-01-01\n", "\n2024-01-0", "2024-01-01\x00", "2024-01-0\x00", "2024-01-01T00:00", "01-01-2024",
		"2024-01-0/", "2024-01-0:", "/024-01-01", ":024-01-01", "2024-0:-01", "2023-02-2x", "2024-13-0x", "9999-99-9x", "2024-13-1", "02024-13-01",
		"２０24-01-01", "2024-01-0１", "2024‐01‐01", "٢٠٢٤-٠١-٠١", "２0-01-01", "2024-01-0\xff", "\xff024-01-01", "----------", "xxxx-xx-xx",
		strings.Repeat("2024-01-01", 500), strings.Repeat("0", 5000), "2024-01-01" + strings.Repeat("0", 5000),
	} {
		parseNone(t, s, api.ErrForm)
	}
}

// TestP4_3ParseEachByte turns each byte of a text into each other one.
func TestP4_3ParseEachByte(t *testing.T) {
	const text = "2024-11-11"
	for i := range len(text) {
		for b := range 256 {
			s := text[:i] + string([]byte{byte(b)}) + text[i+1:]
			if isDigit := '0' <= b && b <= '9'; s == text || isDigit && text[i] != '-' {
				if _, e := civil.Parse(s); e == api.ErrForm {
					t.Errorf("Parse(%q): ErrForm", s)
				}
				continue
			}
			parseNone(t, s, api.ErrForm)
		}
	}
}

func TestP4_4OfAndTo(t *testing.T) {
	next := firstDay
	for year := 1900; year <= 2199; year++ {
		for month := 1; month <= 12; month++ {
			for day := 1; day <= civil.MonthDays(year, month); day++ {
				date := civil.Date{Year: year, Month: month, Day: day}
				d, e := civil.Of(date)
				check(t, fmt.Sprint("Of ", date), d, next)
				check(t, fmt.Sprint("error of Of ", date), e, api.OK)
				check(t, fmt.Sprint("To of Of ", date), civil.To(d), date)
				next++
			}
		}
	}
	check(t, "the day behind the last one", next, lastDay+1)
}

func TestP4_4MonthsForthAndBack(t *testing.T) {
	for d := dayOf(t, "1999-01-01"); d <= dayOf(t, "2105-12-31"); d++ {
		date := civil.To(d)
		for n := -14; n <= 14; n++ {
			back := civil.To(civil.AddMonths(civil.AddMonths(d, n), -n))
			earlier := date.Day > 28 && back.Year == date.Year && back.Month == date.Month && 28 <= back.Day && back.Day < date.Day
			if back != date && !earlier {
				t.Errorf("%v, %d months forth and back: %v", date, n, back)
			}
		}
	}
}

// TestP1NoPanic hands each call what is farthest out.
func TestP1NoPanic(t *testing.T) {
	edges := []int{math.MinInt, math.MinInt + 1, -1 << 31, -1, 0, 1, 2, 12, 13, 31, 1899, 1900, 2199, 2200, 1<<31 - 1, math.MaxInt - 1, math.MaxInt}
	for _, a := range edges {
		civil.To(api.Day(a))
		civil.Text(api.Day(a))
		civil.Weekday(api.Day(a))
		for _, b := range edges {
			civil.MonthDays(a, b)
			civil.AddMonths(api.Day(a), b)
			for _, c := range edges {
				civil.Of(civil.Date{Year: a, Month: b, Day: c})
			}
		}
	}
}
