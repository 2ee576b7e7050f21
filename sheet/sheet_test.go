package sheet_test

import (
	"fmt"
	"math"
	"math/rand"
	"slices"
	"testing"

	"wagebook/api"
	"wagebook/fact"
	"wagebook/sheet"
	"wagebook/store"
)

func TestP17_1Of(t *testing.T) {
	v := told(t,
		shift(1, 19725, "", 480, ""), shift(1, 19723, "", 300, "60"), shift(1, 19723, "p", 100, "7"), shift(2, 19724, "", 5, "5"), shift(1, 19727, "", 0, ""), shift(1, 19726, "x", 1440, "1440"))
	checkOf(t, "all days", v, 1, always(),
		sheet.Entry{Day: 19723, Minutes: 400, Night: 67}, sheet.Entry{Day: 19725, Minutes: 480}, sheet.Entry{Day: 19726, Minutes: 1440, Night: 1440}, sheet.Entry{Day: 19727})
	checkOf(t, "some days", v, 1, from(19724, 19726), sheet.Entry{Day: 19725, Minutes: 480})
	checkOf(t, "a day", v, 1, from(19723, 19724), sheet.Entry{Day: 19723, Minutes: 400, Night: 67})
	checkOf(t, "up to a day", v, 1, from(19700, 19723))
	checkOf(t, "behind the days", v, 1, from(19728, 19800))
	checkOf(t, "a day without any", v, 1, from(19724, 19725))
	checkOf(t, "no days", v, 1, from(19723, 19723))
	checkOf(t, "a span that falls", v, 1, from(19728, 19723))
	checkOf(t, "another person", v, 2, always(), sheet.Entry{Day: 19724, Minutes: 5, Night: 5})
	checkOf(t, "somebody else", v, 3, always())
	checkOf(t, "the firm", v, 0, always())
	checkOf(t, "the zero view", store.View{}, 1, always())
}

// TestP17_1LatestOfACode: of each code of a day the fact with the greatest number counts, whatever it says.
func TestP17_1LatestOfACode(t *testing.T) {
	s := stored(t,
		shift(1, 5, "", 300, "60"), shift(1, 5, "a", 50, "50"), shift(1, 5, "", 200, ""), shift(1, 6, "", 1, "1"), shift(1, 5, "a", 0, "0"), shift(2, 5, "", 9, "9"), shift(1, 5, "", 100, "10"), cancel(7), cancel(5), cancel(2), cancel(4))
	for n, wanted := range map[int]sheet.Entry{
		1: {Day: 5, Minutes: 300, Night: 60},
		2: {Day: 5, Minutes: 350, Night: 110},
		3: {Day: 5, Minutes: 250, Night: 50},
		4: {Day: 5, Minutes: 250, Night: 50},
		5: {Day: 5, Minutes: 200, Night: 0},
		6: {Day: 5, Minutes: 200, Night: 0},
		7: {Day: 5, Minutes: 100, Night: 10},
		8: {Day: 5, Minutes: 200, Night: 0},
		9: {Day: 5, Minutes: 250, Night: 50},
	} {
		checkOf(t, fmt.Sprint("behind ", n), s.At(n), 1, from(5, 6), wanted)
	}
	checkOf(t, "behind 10", s.At(10), 1, always(), sheet.Entry{Day: 5, Minutes: 200}, sheet.Entry{Day: 6, Minutes: 1, Night: 1})
	checkOf(t, "behind 11", s.At(11), 1, always(), sheet.Entry{Day: 5, Minutes: 200})
	checkOf(t, "behind 0", s.At(0), 1, always())
}

func TestP17_1TooMany(t *testing.T) {
	s := stored(t, shift(1, 5, "a", 1000, ""), shift(1, 5, "b", 440, ""), shift(1, 5, "c", 1, ""), shift(1, 9, "", 1440, ""), shift(2, 5, "", 1440, ""), shift(1, 9, "n", 1440, "1440"), shift(1, 5, "a", 999, ""))
	checkOf(t, "as many as a day has", s.At(2), 1, always(), sheet.Entry{Day: 5, Minutes: 1440})
	refused := func(what string, v store.View, days api.Span) {
		t.Helper()
		got, e := sheet.Of(v, 1, days)
		check(t, "error of "+what, e, api.ErrRange)
		check(t, "entries beside it", len(got), 0)
	}
	refused("one more", s.At(3), always())
	refused("one more on the first day", s.At(5), from(5, 10))
	refused("one more on the last day", s.At(7), from(5, 10))
	refused("that day alone", s.At(7), from(9, 10))
	checkOf(t, "without that day", s.At(7), 1, from(4, 9), sheet.Entry{Day: 5, Minutes: 1440})
	checkOf(t, "behind that day", s.At(7), 1, from(10, highest))
	checkOf(t, "another person", s.At(7), 2, always(), sheet.Entry{Day: 5, Minutes: 1440})
}

// TestP17_1TheWholeStore: as many facts as there may be, all of one day, or a day each, on the calendar's first and last days too.
func TestP17_1TheWholeStore(t *testing.T) {
	var each, all []fact.Fact
	var wanted []sheet.Entry
	for i := range api.MaxFacts {
		d := firstDay + api.Day(i)
		if i >= api.MaxFacts/2 {
			d = lastDay - api.Day(api.MaxFacts-1-i)
		}
		each = append(each, shift(7, d, "", int64(i%1441), ""))
		wanted = append(wanted, sheet.Entry{Day: d, Minutes: i % 1441})
		all = append(all, shift(7, 0, fmt.Sprint("c", i), 1440, "1440"))
	}
	slices.Reverse(each)
	s, _, e := store.Store{}.Import(each...)
	check(t, "error of a day each", e, api.OK)
	checkOf(t, "a day each", s.At(s.Len()), 7, always(), wanted...)
	checkOf(t, "the calendar", s.At(s.Len()), 7, from(firstDay, lastDay+1), wanted...)
	checkOf(t, "the first and the last left out", s.At(s.Len()), 7, from(firstDay+1, lastDay), wanted[1:len(wanted)-1]...)
	s, _, e = store.Store{}.Import(all...)
	check(t, "error of one day", e, api.OK)
	_, e = sheet.Of(s.At(s.Len()), 7, always())
	check(t, "one day", e, api.ErrRange)
	checkOf(t, "one fact", s.At(1), 7, always(), sheet.Entry{Minutes: 1440, Night: 1440})
}

func TestP17_1ByWords(t *testing.T) {
	r := rand.New(rand.NewSource(171))
	errors := 0
	for range 1500 {
		first := []api.Day{firstDay, lastDay - 11, -6, monday}[r.Intn(4)]
		w := someFacts(r, first)
		s := stored(t, w...)
		n := r.Intn(len(w) + 1)
		days := from(first+api.Day(r.Intn(6)-2), first+api.Day(r.Intn(16)))
		for person := range uint32(3) {
			got, e := sheet.Of(s.At(n), person, days)
			wanted, wantedE := ofByWords(w[:n], person, days)
			check(t, fmt.Sprint("error of ", w[:n], days), e, wantedE)
			checkList(t, fmt.Sprint("Of ", w[:n], days), got, wanted)
			if e != api.OK {
				errors++
			}
		}
	}
	check(t, "some are too many", errors > 50, true)
}

func TestP17_2Example(t *testing.T) {
	l := days(monday, 540, 540, 540, 540, 540)
	lim := sheet.Limits{Day: 480, Week: 2280}
	checkSum(t, "the week", l, lim, from(monday, monday+7), sheet.Hours{Plain: 2280, Over: 420, Night: 270})
	for i := range api.Day(4) {
		checkSum(t, fmt.Sprint("day ", i), l, lim, from(monday+i, monday+i+1), sheet.Hours{Plain: 480, Over: 60, Night: 54})
	}
	checkSum(t, "Friday", l, lim, from(monday+4, monday+5), sheet.Hours{Plain: 360, Over: 180, Night: 54})
	checkSum(t, "Saturday", l, lim, from(monday+5, monday+6), sheet.Hours{})
}

// TestP17_2Week: a week is from Monday to Sunday, also ahead of 1970; the days behind the limit are over as a whole.
func TestP17_2Week(t *testing.T) {
	lim := sheet.Limits{Day: 1000, Week: 2500}
	for _, m := range []api.Day{monday, firstDay, 4, -3, -3 - 7*1000, lastDay - 15} { // the last one is a Monday, too
		l := days(m-1, 1100, 1000, 0, 1000, 1000, 1200, 10, 1440, 700)
		for i, wanted := range []sheet.Hours{{Plain: 1000, Over: 100}, {Plain: 1000}, {}, {Plain: 1000}, {Plain: 500, Over: 500}, {Over: 1200}, {Over: 10}, {Over: 1440}, {Plain: 700}} {
			if l[i].Day < firstDay {
				continue
			}
			wanted.Night = l[i].Night
			right := l
			if m == firstDay {
				right = l[1:]
			}
			checkSum(t, fmt.Sprint("day ", i, " behind ", m), right, lim, from(l[i].Day, l[i].Day+1), wanted)
		}
	}
}

// TestP17_2Outside: days outside the span count in their weeks, those ahead of it, and not those behind it.
func TestP17_2Outside(t *testing.T) {
	l := days(monday, 500, 500, 500, 500)
	lim := sheet.Limits{Day: 500, Week: 1200}
	checkSum(t, "ahead", l, lim, from(monday, monday+2), sheet.Hours{Plain: 1000, Night: 100})
	checkSum(t, "within", l, lim, from(monday+2, monday+3), sheet.Hours{Plain: 200, Over: 300, Night: 50})
	checkSum(t, "behind", l, lim, from(monday+3, highest), sheet.Hours{Over: 500, Night: 50})
	checkSum(t, "without the first", l[1:], lim, from(monday+3, highest), sheet.Hours{Plain: 200, Over: 300, Night: 50})
	checkSum(t, "none", l, lim, from(monday+4, monday+4), sheet.Hours{})
	checkSum(t, "none that falls", l, lim, from(monday+4, monday), sheet.Hours{})
	checkSum(t, "the widest that falls", l, lim, from(highest, lowest), sheet.Hours{})
	checkSum(t, "all", l, lim, always(), sheet.Hours{Plain: 1200, Over: 800, Night: 200})
	checkSum(t, "up to", l, lim, from(lowest, monday), sheet.Hours{})
	checkSum(t, "no entries", nil, lim, always(), sheet.Hours{})
}

// TestP17_2Limits: the least and the greatest limits, and the place at which a limit is just kept.
func TestP17_2Limits(t *testing.T) {
	full := days(monday, 1440, 1440, 1440, 1440, 1440, 1440, 1440)
	all := sheet.Hours{Night: 1008}
	for lim, over := range map[sheet.Limits]int{
		{}:                       10080,
		{Day: 1440}:              10080,
		{Week: 10080}:            10080,
		{Day: 1440, Week: 10080}: 0,
		{Day: 1440, Week: 10079}: 1,
		{Day: 1439, Week: 10080}: 7,
		{Day: 1439, Week: 10073}: 7,
		{Day: 1439, Week: 10072}: 8,
		{Day: 1, Week: 7}:        10073,
		{Day: 1, Week: 6}:        10074,
		{Day: 1440, Week: 1}:     10079,
	} {
		all.Plain, all.Over = 10080-over, over
		checkSum(t, fmt.Sprint("full days, ", lim), full, lim, always(), all)
	}
}

// wrong are entries that aren't right, with their errors.
func wrong() []struct {
	l      []sheet.Entry
	wanted api.Errno
} {
	type wrongOne = struct {
		l      []sheet.Entry
		wanted api.Errno
	}
	l := []wrongOne{
		{make([]sheet.Entry, api.MaxFacts+1), api.ErrMany},
		{slices.Repeat([]sheet.Entry{{Day: lastDay + 1}}, api.MaxFacts+1), api.ErrMany},
		{make([]sheet.Entry, api.MaxFacts), api.ErrOrder},
		{[]sheet.Entry{{Day: 5}, {Day: 5}}, api.ErrOrder},
		{[]sheet.Entry{{Day: 5}, {Day: 4}}, api.ErrOrder},
		{[]sheet.Entry{{Day: 5}, {Day: 7}, {Day: 6}}, api.ErrOrder},
		{[]sheet.Entry{{Day: 5}, {Day: 5, Minutes: 1441}}, api.ErrOrder},
		{[]sheet.Entry{{Day: 5}, {Day: 5, Night: 1}}, api.ErrOrder},
		{[]sheet.Entry{{Day: 5}, {Day: firstDay - 1}}, api.ErrDay},
		{[]sheet.Entry{{Day: 5}, {Day: 5}, {Day: lastDay + 1}}, api.ErrOrder},
		{[]sheet.Entry{{Day: 5}, {Day: lastDay + 1}, {Day: 5}}, api.ErrDay},
		{[]sheet.Entry{{Day: lastDay + 1, Minutes: -1}}, api.ErrDay},
		{[]sheet.Entry{{Day: 5, Minutes: 1441}}, api.ErrRange},
		{[]sheet.Entry{{Day: 5, Minutes: -1}}, api.ErrRange},
		{[]sheet.Entry{{Day: 5, Minutes: -1, Night: -1}}, api.ErrRange},
		{[]sheet.Entry{{Day: 5, Minutes: math.MinInt, Night: math.MinInt}}, api.ErrRange},
		{[]sheet.Entry{{Day: 5, Minutes: math.MaxInt}}, api.ErrRange},
		{[]sheet.Entry{{Day: 5, Minutes: 5, Night: 6}}, api.ErrRange},
		{[]sheet.Entry{{Day: 5, Night: -1}}, api.ErrRange},
		{[]sheet.Entry{{Day: 5, Minutes: 1440, Night: 1441}}, api.ErrRange},
		{[]sheet.Entry{{Day: 5, Minutes: 9, Night: math.MinInt}}, api.ErrRange},
		{[]sheet.Entry{{Day: 5, Minutes: 9, Night: math.MaxInt}}, api.ErrRange},
		{[]sheet.Entry{{Day: 5, Night: 1}, {Day: 4}}, api.ErrRange},
		{[]sheet.Entry{{Day: 5, Minutes: 1441}, {Day: lastDay + 1}}, api.ErrRange},
		{[]sheet.Entry{{Day: 4}, {Day: 5, Minutes: 1441}}, api.ErrRange},
	}
	for _, d := range []api.Day{firstDay - 1, lastDay + 1, lowest, highest} {
		l = append(l, wrongOne{[]sheet.Entry{{Day: d}}, api.ErrDay})
	}
	return l
}

func TestP17_2Errors(t *testing.T) {
	right := sheet.Limits{Day: 480, Week: 2400}
	refused := func(l []sheet.Entry, lim sheet.Limits, wanted api.Errno) {
		t.Helper()
		for _, s := range []api.Span{always(), {}, from(5, 6)} {
			h, e := sheet.Sum(l, lim, s)
			check(t, fmt.Sprintf("error of %.99s by %v", fmt.Sprint(l), lim), e, wanted)
			check(t, "hours beside it", h, sheet.Hours{})
		}
		check(t, "weeks beside it", len(sheet.Weeks(l, lim)), 0)
	}
	for _, x := range wrong() {
		refused(x.l, right, x.wanted)
		refused(x.l, sheet.Limits{Day: -1}, x.wanted) // entries are looked at ahead of limits
	}
	for _, lim := range []sheet.Limits{
		{Day: -1}, {Day: 1441}, {Week: -1}, {Week: 10081}, {Day: 1440, Week: 10081}, {Day: 1441, Week: 10080}, {Day: math.MinInt}, {Day: math.MaxInt}, {Week: math.MinInt}, {Week: math.MaxInt},
	} {
		refused(nil, lim, api.ErrRange)
		refused(days(monday, 540, 540), lim, api.ErrRange)
	}
}

// TestP17_2Most: as many entries as there may be, on the calendar's first and last days too.
func TestP17_2Most(t *testing.T) {
	var l []sheet.Entry
	for i := range api.MaxFacts - 1 {
		l = append(l, sheet.Entry{Day: firstDay + api.Day(i), Minutes: 1440, Night: 1440})
	}
	l = append(l, sheet.Entry{Day: lastDay, Minutes: 1440})
	checkSum(t, "so many", l, sheet.Limits{Day: 1440, Week: 10080}, always(), sheet.Hours{Plain: 4096 * 1440, Night: 4095 * 1440})
	check(t, "so many weeks", len(sheet.Weeks(l, sheet.Limits{})), 586)
}

func TestP17_3Weeks(t *testing.T) {
	lim := sheet.Limits{Day: 480, Week: 900}
	l := append(days(monday-1, 500, 480, 480), days(monday+6, 100, 600)...)
	l = append(l, days(monday+21, 0)...)
	checkList(t, "Weeks", sheet.Weeks(l, lim), []sheet.Hours{{Plain: 480, Over: 20, Night: 50}, {Plain: 900, Over: 160, Night: 106}, {Plain: 480, Over: 120, Night: 60}, {}})
	checkList(t, "Weeks of nothing", sheet.Weeks(nil, lim), nil)
	checkList(t, "a week around 1970", sheet.Weeks(days(-3, 1, 2, 3, 4, 5, 6, 7, 8), sheet.Limits{Day: 1440, Week: 20}), []sheet.Hours{{Plain: 20, Over: 8}, {Plain: 8}})
}

func TestP17_3ByWords(t *testing.T) {
	r := rand.New(rand.NewSource(173))
	for range 3000 {
		l := someEntries(r, []api.Day{firstDay, lastDay - 60, -20, monday}[r.Intn(4)])
		lim := someLimits(r)
		checkList(t, fmt.Sprint("Weeks of ", l, lim), sheet.Weeks(l, lim), weeksByWords(l, lim))
		s := always()
		if len(l) > 0 {
			s = from(l[r.Intn(len(l))].Day+api.Day(r.Intn(3)-1), l[r.Intn(len(l))].Day+api.Day(r.Intn(3)-1))
		}
		checkSum(t, fmt.Sprint("Sum of ", l, lim, s), l, lim, s, sumByWords(l, lim, s))
	}
}

// TestP17_4Follows: what was worked is plain or over; spans sum; greater limits have not more over.
func TestP17_4Follows(t *testing.T) {
	r := rand.New(rand.NewSource(174))
	for range 2000 {
		l, lim := someEntries(r, -100), someLimits(r)
		cut := api.Day(r.Intn(200) - 120)
		sum := func(lim sheet.Limits, s api.Span) sheet.Hours {
			h, e := sheet.Sum(l, lim, s)
			check(t, "error", e, api.OK)
			return h
		}
		all := sum(lim, always())
		check(t, fmt.Sprint("both spans of ", l, lim), plus(sum(lim, from(lowest, cut)), sum(lim, from(cut, highest))), all)
		worked, weeks := 0, sheet.Hours{}
		for _, e := range l {
			worked += e.Minutes
		}
		for _, h := range sheet.Weeks(l, lim) {
			weeks = plus(weeks, h)
		}
		check(t, fmt.Sprint("what was worked of ", l, lim), all.Plain+all.Over, worked)
		check(t, fmt.Sprint("all weeks of ", l, lim), weeks, all)
		greater := sheet.Limits{Day: lim.Day + r.Intn(1441-lim.Day), Week: lim.Week + r.Intn(10081-lim.Week)}
		check(t, fmt.Sprint("less over of ", l, lim, greater), sum(greater, always()).Over <= all.Over, true)
		greater.Day = lim.Day
		for _, e := range l {
			day := from(e.Day, e.Day+1)
			check(t, fmt.Sprint("less over on a day of ", l, lim, greater), sum(greater, day).Over <= sum(lim, day).Over, true)
		}
	}
}

// TestMemory: what is handed in stays as it was, spare room included; answers are new memory.
func TestMemory(t *testing.T) {
	l := days(monday, 540, 540, 540, 540)
	kept := slices.Clone(l)
	lim := sheet.Limits{Day: 480, Week: 900}
	first := sheet.Weeks(l[:2], lim)
	_, _ = sheet.Sum(l[:2], lim, always())
	checkList(t, "the entries", l, kept)
	first[0].Plain = -1
	checkList(t, "weeks, again", sheet.Weeks(l[:2], lim), []sheet.Hours{{Plain: 900, Over: 180, Night: 108}})
	v := told(t, shift(1, 5, "", 300, "60"))
	got, _ := sheet.Of(v, 1, always())
	got[0].Minutes = 7
	checkOf(t, "entries, again", v, 1, always(), sheet.Entry{Day: 5, Minutes: 300, Night: 60})
}
