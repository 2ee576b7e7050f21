package month_test

import (
	"fmt"
	"slices"
	"strings"
	"testing"

	"wagebook/api"
	"wagebook/fact"
	"wagebook/month"
	"wagebook/period"
)

// sample is what is told, and the gross items that are wanted of January.
type sample struct {
	wanted string
	lines  []string
}

// checkSamples holds samples, behind some lines that all have, against what the program tells, and the chapter's words.
func checkSamples(t *testing.T, ahead []string, l ...sample) {
	t.Helper()
	for _, x := range l {
		lines := slices.Concat(ahead, x.lines)
		by, e := words{parsed(t, lines...), 1, january(t)}.gross()
		checkSame(t, fmt.Sprint("by words, ", x.lines), by, e, items(t, x.wanted), api.OK)
		checkGross(t, fmt.Sprint("of ", x.lines), told(t, lines...), january(t), x.wanted)
	}
}

// span is the period of so many days from a day on, the one of its year.
func span(from api.Day, days int) period.Period {
	return period.Period{Index: 1, Of: 1, Span: api.Span{From: from, To: from + api.Day(days)}}
}

// with is a person of 60000.00 a year, and more lines.
func with(lines ...string) []string { return append(employed(), lines...) }

func TestP22_2Bonuses(t *testing.T) {
	checkSamples(t, nil,
		sample{"", nil},
		sample{"x 5", []string{"bonus 0 1 2024-01-01 - x 5"}},
		sample{"x 5", []string{"bonus 0 1 2024-01-31 - x 5"}},
		sample{"", []string{"bonus 0 1 2023-12-31 - x 5"}},
		sample{"", []string{"bonus 0 1 2024-02-01 - x 5"}},
		sample{"", []string{"bonus 0 2 2024-01-01 - x 5"}},
		sample{"x -5", []string{"bonus 0 1 2024-01-01 - x -5"}},
		sample{"", []string{"bonus 0 1 2024-01-01 - x 0"}},
		sample{"x 10", []string{"bonus 0 1 2024-01-01 - x 5", "bonus 0 1 2024-01-01 - x 5"}},
		sample{"", []string{"bonus 0 1 2024-01-01 - x 5", "bonus 0 1 2024-01-09 - x -5"}},
		sample{"b 7", []string{"bonus 0 1 2024-01-01 - x 5", "bonus 0 1 2024-01-09 - b 7", "cancel 0 0 1970-01-01 - - 1"}},
		sample{"b 7, x 5", []string{"bonus 0 1 2024-01-09 - x 5", "bonus 0 1 2024-01-01 - b 7"}},
		sample{"x-y 7, x.y 5", []string{"bonus 0 1 2024-01-09 - x.y 5", "bonus 0 1 2024-01-01 - x-y 7"}},
		sample{"salary 5", []string{"bonus 0 1 2024-01-09 - salary 5"}},
		sample{"x 1125899906842624", []string{"bonus 0 1 2024-01-01 - x 1125899906842624"}},
		sample{"x -1125899906842624", []string{"bonus 0 1 2024-01-01 - x -1125899906842624"}},
		sample{"x 1125899906842624", []string{"bonus 0 1 2024-01-01 - x 1125899906842624", "bonus 0 1 2024-01-01 - x 5", "bonus 0 1 2024-01-01 - x -5"}}, // it is the whole sum that must fit
	)
	for _, sign := range []string{"", "-"} {
		lines := []string{"bonus 0 1 2024-01-01 - x " + sign + "1125899906842624", "bonus 0 1 2024-01-31 - x " + sign + "1"}
		checkNoGross(t, "of too much", told(t, lines...), january(t), api.ErrOverflow)
		checkNoGross(t, "of too much, of who is there", told(t, with(lines...)...), january(t), api.ErrOverflow)
		lines[1] = strings.Replace(lines[1], " x ", " y ", 1)
		checkGross(t, "of much", told(t, lines...), january(t), "x "+sign+"1125899906842624, y "+sign+"1")
	}
}

// TestP22_2NotThere: who isn't employed on a day of the period has bonuses alone, and no other error than theirs.
func TestP22_2NotThere(t *testing.T) {
	all := []string{
		"salary 0 1 2024-01-01 - - 1125899906842624", "hours 0 1 2024-01-01 - - 0 1 0 0 0 0 0 0", "sheet 0 1 2024-01-05 - a 1440", "sheet 0 1 2024-01-05 - b 1440",
		"rule 0 0 2024-01-01 - over.rate -5", "rule 0 0 2024-01-01 - hours.day -5", "element 0 0 2024-01-01 - e 0 1", "element 0 0 2024-01-01 - e-e 0 1+", "bonus 0 1 2024-01-09 - x 5",
	}
	checkSamples(t, all,
		sample{"x 5", nil},
		sample{"x 5", []string{"employ 0 1 2024-01-01 - - 0"}},
		sample{"x 5", []string{"employ 0 1 2024-02-01 - - 1"}},
		sample{"x 5", []string{"employ 0 1 2023-12-01 2024-01-01 - 1"}},
		sample{"x 5", []string{"employ 0 2 2023-12-01 - - 1"}},
		sample{"x 5", []string{"employ 0 1 2023-12-01 - - 1", "employ 0 1 2023-12-31 2024-02-01 - 0"}},
		sample{"x 5", []string{"employ 0 1 2023-12-01 - - 1", "employ 0 1 2024-01-01 2024-02-01 - 0"}},
	)
	for _, line := range []string{"employ 0 1 2024-01-31 - - 1", "employ 0 1 2023-12-01 2024-01-02 - 1"} {
		checkNoGross(t, "of who is there for a day", told(t, append(all, line)...), january(t), api.ErrRange)
	}
}

// TestP22_2Many: there are 64 items at most, those that come to 0 not counted.
func TestP22_2Many(t *testing.T) {
	count := func(what string, n int, lines ...string) {
		t.Helper()
		l, e := month.Gross(told(t, lines...), 1, january(t))
		check(t, "error "+what, e, api.OK)
		check(t, "items "+what, len(l), n)
	}
	lines := append(numbered(64, "bonus 0 1 2024-01-01 - b# 1"), "bonus 0 1 2024-01-01 - z 0", "bonus 0 1 2024-01-01 - y 5", "bonus 0 1 2024-01-01 - y -5")
	count("of bonuses", 64, lines...)
	count("with a salary that comes to 0", 64, with(append(lines, "bonus 0 1 2024-01-01 - salary -500000")...)...)
	checkNoGross(t, "of one bonus more", told(t, append(lines, "bonus 0 1 2024-01-01 - z 1")...), january(t), api.ErrMany)
	checkNoGross(t, "with a salary", told(t, with(lines...)...), january(t), api.ErrMany)
	elements := append(numbered(60, "element 0 0 2024-01-01 - e# 0 1"), numbered(4, "element 0 0 2024-01-01 - calc.e# 0 1")...)
	count("of elements", 64, with(append(elements, numbered(3, "bonus 0 1 2024-01-01 - b# 1")...)...)...)
	checkNoGross(t, "of elements and a bonus more", told(t, with(append(elements, numbered(4, "bonus 0 1 2024-01-01 - b# 1")...)...)...), january(t), api.ErrMany)
	checkNoGross(t, "of 65 elements", told(t, with(append(elements, "element 0 0 2024-01-01 - calc.z 0 1")...)...), january(t), api.ErrMany)
}

func TestP22_2Salary(t *testing.T) {
	checkSamples(t, []string{"salary 0 1 2024-01-01 - - 6000000"},
		sample{"salary 500000", []string{"employ 0 1 2000-01-01 - - 1"}},
		sample{"salary 338710", []string{"employ 0 1 2024-01-11 - - 1"}},
		sample{"salary 161290", []string{"employ 0 1 2024-01-01 2024-01-11 - 1"}},
		sample{"salary 16129", []string{"employ 0 1 2024-01-31 - - 1"}},
		sample{"salary 32258", []string{"employ 0 1 2024-01-01 2024-01-02 - 1", "employ 0 1 2024-01-31 - - 1"}},
		sample{"", nil},
		sample{"", []string{"employ 0 1 2024-01-01 - - 1", "salary 0 1 2024-01-01 - - 0"}},
	)
	checkSamples(t, employed(),
		sample{"salary 500000", []string{"salary 0 2 2024-01-01 - - 7"}},
		sample{"salary 250000", []string{"part 0 1 2024-01-01 - - 500000"}},
		sample{"salary 419355", []string{"part 0 1 2024-01-22 - - 500000"}},
		sample{"salary 500000", []string{"part 0 1 2024-02-01 - - 500000"}},
		sample{"salary 567742", []string{"salary 0 1 2024-01-11 - - 7200000"}},
		sample{"salary 500000", []string{"salary 0 1 2024-02-01 - - 7200000"}},
		sample{"salary 338710", []string{"salary 0 1 2024-01-01 2024-01-11 - 0"}},
		sample{"", []string{"part 0 1 2024-01-01 - - 0"}},
		sample{"x 5", []string{"bonus 0 1 2024-01-01 - x 5", "bonus 0 1 2024-01-01 - salary -500000"}},
		sample{"salary 499999", []string{"bonus 0 1 2024-01-01 - salary -1"}},
	)
	p := periodAt(t, period.Calendar{Kind: period.Biweekly, First: newYear}, newYear+20)
	checkGross(t, "of two weeks of 26", told(t, employed()...), p, "salary 230769")
	v := told(t, with("bonus 0 1 2024-01-01 - salary 1125899906842624")...)
	checkNoGross(t, "with a bonus of that code, beyond the limit", v, january(t), api.ErrOverflow)
}

// TestP22_2Pieces: a salary has 64 pieces at most; days on which the person isn't employed are none.
func TestP22_2Pieces(t *testing.T) {
	begun := fact.Fact{Person: 1, Kind: fact.Employ, From: newYear, Num: 1}
	paid := fact.Fact{Person: 1, Kind: fact.Salary, From: newYear, Num: 1280000}
	away, apart := []fact.Fact{begun, paid}, []fact.Fact{begun, paid}
	for i := range api.Day(70) {
		d := newYear + 2*i + 1
		away = append(away, fact.Fact{Person: 1, Kind: fact.Employ, From: d, To: d + 1})
		apart = append(apart, fact.Fact{Person: 1, Kind: fact.Cost, From: d, To: d + 1, Text: "a:1"})
	}
	checkGross(t, "of 64 pieces", known(t, away...), span(newYear, 128), "salary 640000")
	checkNoGross(t, "of 65 pieces", known(t, away...), span(newYear, 130), api.ErrMany)
	checkGross(t, "of 64 pieces that touch", known(t, apart...), span(newYear, 64), "salary 1280000")
	checkNoGross(t, "of 65 pieces that touch", known(t, apart...), span(newYear, 65), api.ErrMany)
	p := span(newYear, 65)
	p.Of = 0
	checkNoGross(t, "of 65 pieces, of a wrong period", known(t, apart...), p, api.ErrMany)
}

func TestP22_2SalaryErrors(t *testing.T) {
	for _, x := range []struct {
		index, of int
		wanted    api.Errno
	}{{1, 0, api.ErrZero}, {0, 0, api.ErrZero}, {1, -1, api.ErrRange}, {0, 12, api.ErrRange}, {13, 12, api.ErrRange}, {1, 1<<50 + 1, api.ErrRange}, {int(lowest), int(highest), api.ErrRange}} {
		p := january(t)
		p.Index, p.Of = x.index, x.of
		what := fmt.Sprint(x.index, " of ", x.of)
		checkNoGross(t, what, told(t, employed()...), p, x.wanted)
		checkNoGross(t, what+", ahead of a wrong name", told(t, with("element 0 0 2024-01-01 - e-e 0 1")...), p, x.wanted)
		checkGross(t, what+", of who isn't there", told(t, "bonus 0 1 2024-01-01 - x 5"), p, "x 5")
	}
	// Of the greatest amount the odd ones of seven days have a cent more, of the one below it the even ones: together they are more than fits.
	lines := []string{
		"element 0 0 2024-01-01 - e-e 0 1", "employ 0 1 2024-01-01 - - 1", "salary 0 1 2024-01-01 - - 1125899906842624",
		"salary 0 1 2024-01-02 2024-01-03 - 1125899906842623", "salary 0 1 2024-01-04 2024-01-05 - 1125899906842623", "salary 0 1 2024-01-06 2024-01-07 - 1125899906842623",
	}
	checkNoGross(t, "of more than fits, ahead of a wrong name", told(t, lines...), span(newYear, 7), api.ErrOverflow)
	checkNoGross(t, "of what fits, and a wrong name", told(t, lines[:3]...), span(newYear, 7), api.ErrName)
}

func TestP22_2Absent(t *testing.T) {
	day := "absent 0 1 2024-01-09 2024-01-10 unpaid 0" // a Tuesday, of 23 days that are worked
	checkSamples(t, employed(),
		sample{"absent -21739, salary 500000", []string{day}},
		sample{"absent -21739, salary 500000", []string{"absent 0 1 2024-01-09 2024-01-10 parental 0"}},
		sample{"absent -10870, salary 500000", []string{"absent 0 1 2024-01-09 2024-01-10 sick 500000"}},
		sample{"salary 500000", []string{"absent 0 1 2024-01-09 2024-01-10 leave 1000000"}},
		sample{"salary 500000", []string{"absent 0 1 2024-01-06 2024-01-08 unpaid 0"}}, // a Saturday and a Sunday
		sample{"salary 500000", []string{"absent 0 2 2024-01-09 2024-01-10 unpaid 0"}},
		sample{"absent -500000, salary 500000", []string{"absent 0 1 2023-12-01 - unpaid 0"}},
		sample{"absent -21739, salary 500000", []string{"absent 0 1 2024-01-31 - unpaid 0"}},
		sample{"salary 500000", []string{"absent 0 1 2024-02-01 - unpaid 0"}},
		sample{"absent -32609, salary 500000", []string{"absent 0 1 2024-01-09 2024-01-11 unpaid 0", "absent 0 1 2024-01-09 2024-01-10 sick 500000"}},
		sample{"absent -21739, salary 500000", []string{"absent 0 1 2024-01-09 2024-01-11 unpaid 0", "absent 0 1 2024-01-09 2024-01-10 leave 1000000"}},
		sample{"absent -43478, salary 500000", []string{"absent 0 1 2024-01-09 2024-01-11 unpaid 0", "absent 0 1 2024-01-09 2024-01-10 sick 0"}},
		sample{"absent -22727, salary 500000", []string{day, "holiday 0 0 2024-01-01 - - 0"}},
		sample{"salary 500000", []string{day, "holiday 0 0 2024-01-09 - - 0"}},
		sample{"absent -22727, salary 500000", []string{day, "holiday 0 0 2024-01-12 - - 0", "holiday 0 0 2024-01-20 - - 0", "holiday 0 0 2024-02-01 - - 0", "holiday 0 0 2024-01-12 - - 0"}},
		sample{"salary 500000", []string{day, "hours 0 1 2024-01-31 - - 0 0 0 480 0 0 0 0"}}, // by the week of the last day
		sample{"absent -100000, salary 500000", []string{"absent 0 1 2024-01-10 2024-01-11 unpaid 0", "hours 0 1 2024-01-31 - - 0 0 0 480 0 0 0 0"}},
		sample{"absent -21739, salary 500000", []string{day, "hours 0 1 2024-01-01 2024-01-31 - 0 0 0 480 0 0 0 0"}},
		sample{"salary 500000", []string{day, "hours 0 1 2024-01-01 - - 0 0 0 0 0 0 0 0"}}, // there is nothing to lose
		sample{"absent -21739, salary 500000", []string{day, "hours 0 1 2024-01-01 - - 0 1 1 1 1 1 0 0"}},
		sample{"salary 500000", []string{day, "bonus 0 1 2024-01-09 - absent 21739"}},
		sample{"absent -21740, salary 500000", []string{day, "bonus 0 1 2024-01-09 - absent -1"}},
		sample{"absent -10870, salary 250000", []string{day, "part 0 1 2024-01-01 - - 500000"}},
	)
	checkSamples(t, []string{"salary 0 1 2024-01-01 - - 6000000", "employ 0 1 2024-01-11 - - 1"}, // 15 days that are worked
		sample{"salary 338710", []string{day}},
		sample{"absent -22581, salary 338710", []string{"absent 0 1 2024-01-09 2024-01-12 unpaid 0"}},
		sample{"absent -338710, salary 338710", []string{"absent 0 1 2024-01-01 - unpaid 0"}},
	)
}

// TestP22_2AbsentRounding: absences of one rate are taken together, those of unlike ones aren't.
func TestP22_2AbsentRounding(t *testing.T) {
	for _, x := range []struct {
		yearly, wanted string
		lines          []string
	}{
		{"1", "absent -1, salary 1", []string{"absent 0 1 2024-01-01 2024-01-02 sick 0", "absent 0 1 2024-01-03 2024-01-04 unpaid 0"}},
		{"1", "salary 1", []string{"absent 0 1 2024-01-01 2024-01-02 sick 0", "absent 0 1 2024-01-03 2024-01-04 unpaid 1"}},
		{"3", "absent -2, salary 3", []string{"absent 0 1 2024-01-01 2024-01-02 sick 0", "absent 0 1 2024-01-03 2024-01-04 unpaid 1"}},
		{"3", "absent -3, salary 3", []string{"absent 0 1 2024-01-01 2024-01-05 sick 0", "absent 0 1 2024-01-03 2024-01-04 unpaid 1"}},
		{"2", "absent -1, salary 2", []string{"absent 0 1 2024-01-01 2024-01-02 sick 0"}}, // a half, away from 0
		{"2", "salary 2", []string{"absent 0 1 2024-01-01 2024-01-02 sick 1"}},
	} {
		lines := append([]string{"employ 0 1 2024-01-01 - - 1", "salary 0 1 2024-01-01 - - " + x.yearly}, x.lines...)
		checkGross(t, fmt.Sprint("of ", lines), told(t, lines...), span(newYear, 4), x.wanted)
	}
}

// TestP22_2Over: an hour of 62400.00 a year, by 2400 minutes a week, is 30.00.
func TestP22_2Over(t *testing.T) {
	ten, night := "sheet 0 1 2024-01-09 - - 600", "sheet 0 1 2024-01-09 - - 600 90"
	daily, weekly := "rule 0 0 2024-01-31 - hours.day 480", "rule 0 0 2024-01-31 - hours.week 2400"
	nightly := "rule 0 0 2024-01-01 - night.rate 250000"
	checkSamples(t, []string{"employ 0 1 2024-01-01 - - 1", "salary 0 1 2024-01-01 - - 6240000"},
		sample{"salary 520000", []string{night}}, // without rules nothing is over, and nights are worth nothing
		sample{"over 9000, salary 520000", []string{ten, daily}},
		sample{"over 6000, salary 520000", []string{ten, daily, "rule 0 0 2024-01-01 - over.rate 1000000"}},
		sample{"salary 520000", []string{ten, daily, "rule 0 0 2024-01-01 - over.rate 0"}},
		sample{"over 60000, salary 520000", []string{ten, daily, "rule 0 0 2024-01-01 - over.rate 10000000"}},
		sample{"over 9000, salary 520000", []string{ten, daily, "rule 0 0 2024-02-01 - over.rate 0"}},
		sample{"over 9000, salary 520000", []string{ten, daily, "rule 0 0 2024-01-01 2024-01-31 over.rate 0"}},
		sample{"salary 520000", []string{ten, "rule 0 0 2024-01-01 2024-01-31 hours.day 480"}},
		sample{"over 45000, salary 520000", []string{ten, "rule 0 0 2024-01-01 - hours.day 0"}},
		sample{"over 45000, salary 520000", []string{ten, "rule 0 0 2024-01-01 - hours.week 0"}},
		sample{"night 1125, salary 520000", []string{night, nightly}},
		sample{"night 45000, salary 520000", []string{night, "rule 0 0 2024-01-01 - night.rate 10000000"}},
		sample{"night 1125, over 9000, salary 520000", []string{night, nightly, daily}},
		sample{"night 1125, over 9000, salary 520000", []string{night, nightly, daily, "sheet 0 1 2023-12-31 - - 600 60", "sheet 0 1 2024-02-01 - - 600 60", "sheet 0 2 2024-01-09 - a 600 60"}},
		sample{"night 1875, over 19500, salary 520000", []string{night, nightly, daily, "sheet 0 1 2024-01-31 - a 600 60", "sheet 0 1 2024-01-31 - b 20"}},
		sample{"over 3000, salary 520000", []string{weekly, "sheet 0 1 2024-01-08 - - 1000", "sheet 0 1 2024-01-12 - - 1000", "sheet 0 1 2024-01-14 - - 440", "sheet 0 1 2024-01-15 - - 1000"}},
		sample{"salary 520000", []string{weekly, "sheet 0 1 2024-01-29 - - 1440", "sheet 0 1 2024-01-30 - - 960", "sheet 0 1 2024-02-01 - - 600", "sheet 0 1 2024-02-04 - - 600"}},
		sample{"over 18000, salary 520000", []string{ten, daily, "hours 0 1 2024-01-31 - - 0 600 600 0 0 0 0 0"}},
		sample{"over 9000, salary 520000", []string{ten, daily, "hours 0 1 2024-01-01 2024-01-31 - 0 600 600 0 0 0 0 0"}},
		sample{"salary 520000", []string{night, daily, nightly, "hours 0 1 2024-01-01 - - 0 0 0 0 0 0 0 0"}}, // a week of no minutes has no hour
		sample{"over 18000, salary 536774", []string{ten, daily, "salary 0 1 2024-01-31 - - 12480000"}},
		sample{"over 9000, salary 260000", []string{ten, daily, "part 0 1 2024-01-01 - - 500000"}}, // an hour is one of the whole
		sample{"over 9000, salary 503226", []string{ten, daily, "employ 0 1 2024-01-31 - - 0"}},
		sample{"over 9000, salary 503226", []string{ten, daily, "employ 0 1 2024-01-09 2024-01-10 - 0"}}, // hours are of all days
		sample{"salary 520000", []string{ten, daily, "bonus 0 1 2024-01-09 - over -9000"}},
		sample{"over 9000, salary 520000, x 5", []string{ten, daily, "bonus 0 1 2024-01-09 - x 5"}},
	)
	two := periodAt(t, period.Calendar{Kind: period.Biweekly, First: newYear + 3}, newYear+3) // Thursday by Thursday
	lines := with("rule 0 0 2024-01-01 - hours.week 2400", "sheet 0 1 2024-01-01 - - 1200", "sheet 0 1 2024-01-03 - - 1200", "sheet 0 1 2024-01-04 - - 10", "sheet 0 1 2024-01-18 - - 99")
	checkGross(t, "of days behind others of their week", told(t, lines...), two, "over 721, salary 230769")
}

// TestP22_2OverRounding: an hour is rounded, and what is paid for minutes; a half goes away from 0.
func TestP22_2OverRounding(t *testing.T) {
	for _, x := range []struct {
		yearly, over, rate int
		wanted             string
	}{
		{52 * 40, 30, 1000000, "over 1"},
		{52 * 40, 29, 1000000, ""},
		{52 * 40 * 3, 30, 1000000, "over 2"},
		{52 * 40 * 5, 30, 1000000, "over 3"},
		{52 * 40 / 2, 60, 1000000, "over 1"}, // an hour of a half is 1
		{52*40/2 - 1, 60, 1000000, ""},
		{52 * 40, 60, 500000, "over 1"},
		{52 * 40, 60, 499999, ""},
		{52 * 40 * 3 / 2, 20, 1000000, "over 1"}, // 1.5 is 2, of which a third is 0.67
	} {
		lines := []string{"employ 0 1 2024-01-01 - - 1", fmt.Sprint("salary 0 1 2024-01-01 - - ", x.yearly), "rule 0 0 2024-01-01 - hours.day 0",
			fmt.Sprint("rule 0 0 2024-01-01 - over.rate ", x.rate), fmt.Sprint("sheet 0 1 2024-01-09 - - ", x.over), "part 0 1 2024-01-01 - - 0"}
		checkGross(t, fmt.Sprint("of ", x), told(t, lines...), january(t), x.wanted)
	}
}

func TestP22_2OverErrors(t *testing.T) {
	wrong := "element 0 0 2024-01-01 - e-e 0 1"
	for line, isWrong := range map[string]bool{
		"rule 0 0 2024-01-31 - hours.day 0":         false,
		"rule 0 0 2024-01-31 - hours.day 1440":      false,
		"rule 0 0 2024-01-31 - hours.day -1":        true,
		"rule 0 0 2024-01-31 - hours.day 1441":      true,
		"rule 0 0 2024-01-31 - hours.week 0":        false,
		"rule 0 0 2024-01-31 - hours.week 10080":    false,
		"rule 0 0 2024-01-31 - hours.week -1":       true,
		"rule 0 0 2024-01-31 - hours.week 10081":    true,
		"rule 0 0 2024-01-31 - over.rate 0":         false,
		"rule 0 0 2024-01-31 - over.rate 10000000":  false,
		"rule 0 0 2024-01-31 - over.rate -1":        true,
		"rule 0 0 2024-01-31 - over.rate 10000001":  true,
		"rule 0 0 2024-01-31 - night.rate 0":        false,
		"rule 0 0 2024-01-31 - night.rate 10000000": false,
		"rule 0 0 2024-01-31 - night.rate -1":       true,
		"rule 0 0 2024-01-31 - night.rate 10000001": true,
		"rule 0 0 2024-02-01 - night.rate 10000001": false,
		"sheet 0 1 2023-12-31 - a 1":                false,
		"sheet 0 1 2024-01-01 - a 1":                true,
		"sheet 0 1 2024-01-01 - - 0":                false,
		"sheet 0 1 2024-02-04 - a 1":                true, // the Sunday behind the last day
		"sheet 0 1 2024-02-05 - a 1":                false,
		"sheet 0 2 2024-02-04 - a 1":                false,
	} {
		lines := with(line, wrong)
		for _, day := range []string{"2023-12-31", "2024-01-01", "2024-02-04", "2024-02-05"} {
			lines = append(lines, "sheet 0 1 "+day+" - - 1440")
		}
		wanted := api.ErrName
		if isWrong {
			wanted = api.ErrRange
		}
		checkNoGross(t, line, told(t, lines...), january(t), wanted)
		checkNoGross(t, line+", without an hour", told(t, append(lines, "hours 0 1 2024-01-01 - - 0 0 0 0 0 0 0 0")...), january(t), wanted)
	}
	for _, x := range []struct {
		wanted api.Errno
		lines  []string
	}{
		{api.ErrOverflow, []string{"hours 0 1 2024-01-01 - - 0 1 0 0 0 0 0 0", "salary 0 1 2024-01-31 - - 1125899906842624"}},
		{api.ErrName, []string{"hours 0 1 2024-01-01 - - 0 2 0 0 0 0 0 0", "salary 0 1 2024-01-31 - - 1125899906842624"}},
		{api.ErrName, []string{"hours 0 1 2024-01-01 - - 0 0 0 0 0 0 0 0", "salary 0 1 2024-01-31 - - 1125899906842624"}},
		{api.ErrRange, []string{"hours 0 1 2024-01-01 - - 0 1 0 0 0 0 0 0", "salary 0 1 2024-01-31 - - 1125899906842624", "rule 0 0 2024-01-31 - night.rate -1"}},
		{api.ErrOverflow, []string{"hours 0 1 2024-01-01 - - 0 2 0 0 0 0 0 0", "salary 0 1 2024-01-31 - - 1125899906842624", "rule 0 0 2024-01-31 - hours.day 0", "sheet 0 1 2024-01-09 - - 1440"}},
		{api.ErrOverflow, []string{"hours 0 1 2024-01-01 - - 0 2 0 0 0 0 0 0", "salary 0 1 2024-01-31 - - 1125899906842624", "rule 0 0 2024-01-31 - night.rate 1000000", "sheet 0 1 2024-01-09 - - 1440 1440"}},
	} {
		checkNoGross(t, fmt.Sprint("of ", x.lines), told(t, with(append(x.lines, wrong)...)...), january(t), x.wanted)
	}
}

// TestP22_2Weeks: the first week and the last one may lie across the calendar's ends.
func TestP22_2Weeks(t *testing.T) {
	for _, day := range []string{"2199-12-30", "2199-12-31"} { // a Monday, and the last day
		lines := []string{"employ 0 1 2199-12-01 - - 1", "salary 0 1 2199-12-01 - - 6240000", "rule 0 0 2199-12-01 - hours.day 480", "sheet 0 1 " + day + " - - 600"}
		checkGross(t, day, told(t, lines...), periodAt(t, months(), lastDay), "over 9000, salary 520000")
		checkGross(t, day, told(t, lines...), span(lastDay, 1), map[string]string{"2199-12-30": "salary 6240000", "2199-12-31": "over 9000, salary 6240000"}[day])
	}
	lines := []string{"employ 0 1 1900-01-01 - - 1", "salary 0 1 1900-01-01 - - 6240000", "rule 0 0 1900-01-01 - hours.day 480", "sheet 0 1 1900-01-01 - - 600"}
	checkGross(t, "the first month", told(t, lines...), periodAt(t, months(), firstDay), "over 9000, salary 520000")
}
