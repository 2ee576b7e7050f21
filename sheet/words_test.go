package sheet_test

import (
	"fmt"
	"math"
	"math/rand"
	"slices"
	"strconv"
	"testing"

	"wagebook/api"
	"wagebook/fact"
	"wagebook/sheet"
	"wagebook/store"
)

const (
	lowest   = api.Day(math.MinInt)
	highest  = api.Day(math.MaxInt)
	firstDay = api.Day(-25567)
	lastDay  = api.Day(84005)
	monday   = api.Day(19723) // 2024-01-01
)

// check fails the test, if something is another thing than was wanted.
func check[T comparable](t *testing.T, what string, got, wanted T) {
	t.Helper()
	if got != wanted {
		t.Errorf("%s: %v, wanted %v", what, got, wanted)
	}
}

// checkList fails the test, if a list's elements are others than were wanted; without elements it may be nil or not.
func checkList[T comparable](t *testing.T, what string, got, wanted []T) {
	t.Helper()
	if !slices.Equal(got, wanted) {
		t.Errorf("%s: %.900s, wanted %.900s", what, fmt.Sprint(got), fmt.Sprint(wanted))
	}
}

// checkSum fails the test, if the hours of a span are others than were wanted.
func checkSum(t *testing.T, what string, l []sheet.Entry, lim sheet.Limits, s api.Span, wanted sheet.Hours) {
	t.Helper()
	got, e := sheet.Sum(l, lim, s)
	check(t, "error of "+what, e, api.OK)
	check(t, what, got, wanted)
}

// checkOf fails the test, if a person's entries are others than were wanted.
func checkOf(t *testing.T, what string, v store.View, person uint32, s api.Span, wanted ...sheet.Entry) {
	t.Helper()
	got, e := sheet.Of(v, person, s)
	check(t, "error of "+what, e, api.OK)
	checkList(t, what, got, wanted)
}

// from is the span of the days from a on, up to b.
func from(a, b api.Day) api.Span { return api.Span{From: a, To: b} }

// always is the span of all days.
func always() api.Span { return from(lowest, highest) }

// shift is a fact of a person's sheet.
func shift(person uint32, d api.Day, code string, minutes int64, night string) fact.Fact {
	return fact.Fact{Person: person, Kind: fact.Sheet, From: d, Code: code, Num: minutes, Text: night}
}

// cancel is a fact that takes one back.
func cancel(n int64) fact.Fact { return fact.Fact{Kind: fact.Cancel, Num: n} }

// stored is a store of these facts, each added in turn.
func stored(t *testing.T, l ...fact.Fact) store.Store {
	t.Helper()
	var s store.Store
	for _, f := range l {
		var e api.Errno
		if s, e = s.Add(f); e != api.OK {
			t.Fatalf("Add of %+v: %v", f, e)
		}
	}
	return s
}

// told is all that is known of a store of these facts.
func told(t *testing.T, l ...fact.Fact) store.View {
	t.Helper()
	s := stored(t, l...)
	return s.At(s.Len())
}

// days are entries, a day each, from one on, a tenth of each by night.
func days(first api.Day, minutes ...int) []sheet.Entry {
	var l []sheet.Entry
	for i, n := range minutes {
		l = append(l, sheet.Entry{Day: first + api.Day(i), Minutes: n, Night: n / 10})
	}
	return l
}

// weekByWords is which week a day is in, told by another reckoning than by weekdays: the Monday ahead of 1970 is day -3.
func weekByWords(d api.Day) int {
	return int(math.Floor(float64(d+3) / 7))
}

// partedByWords is each day's hours, told minute by minute.
func partedByWords(l []sheet.Entry, lim sheet.Limits) []sheet.Hours {
	var hours []sheet.Hours
	week, worked := 0, 0
	for i, e := range l {
		if i == 0 || weekByWords(e.Day) != week {
			week, worked = weekByWords(e.Day), 0
		}
		h := sheet.Hours{Night: e.Night}
		for minute := range e.Minutes {
			if minute >= lim.Day {
				h.Over++
				continue
			}
			worked++
			if worked > lim.Week {
				h.Over++
			} else {
				h.Plain++
			}
		}
		hours = append(hours, h)
	}
	return hours
}

// sumByWords is the hours of a span.
func sumByWords(l []sheet.Entry, lim sheet.Limits, s api.Span) sheet.Hours {
	var sum sheet.Hours
	for i, h := range partedByWords(l, lim) {
		if s.From <= l[i].Day && l[i].Day < s.To {
			sum = plus(sum, h)
		}
	}
	return sum
}

// weeksByWords is the hours of each week.
func weeksByWords(l []sheet.Entry, lim sheet.Limits) []sheet.Hours {
	var weeks []sheet.Hours
	for i, h := range partedByWords(l, lim) {
		if i == 0 || weekByWords(l[i].Day) != weekByWords(l[i-1].Day) {
			weeks = append(weeks, sheet.Hours{})
		}
		weeks[len(weeks)-1] = plus(weeks[len(weeks)-1], h)
	}
	return weeks
}

// plus is both hours together.
func plus(a, b sheet.Hours) sheet.Hours {
	return sheet.Hours{Plain: a.Plain + b.Plain, Over: a.Over + b.Over, Night: a.Night + b.Night}
}

// ofByWords is a person's entries, found day by day and code by code.
func ofByWords(w []fact.Fact, person uint32, s api.Span) ([]sheet.Entry, api.Errno) {
	var l []sheet.Entry
	for d := s.From; d < s.To; d++ {
		entry, isTold := sheet.Entry{Day: d}, false
		for i, f := range w {
			isTaken := slices.ContainsFunc(w, func(c fact.Fact) bool { return c.Kind == fact.Cancel && c.Num == int64(i+1) })
			isLater := slices.ContainsFunc(w[i+1:], func(g fact.Fact) bool {
				n := slices.IndexFunc(w, func(h fact.Fact) bool { return h == g }) + 1
				taken := slices.ContainsFunc(w, func(c fact.Fact) bool { return c.Kind == fact.Cancel && c.Num == int64(n) })
				return g.Kind == fact.Sheet && g.Person == f.Person && g.From == d && g.Code == f.Code && !taken
			})
			if f.Kind != fact.Sheet || f.Person != person || f.From != d || isTaken || isLater {
				continue
			}
			isTold = true
			night, _ := strconv.Atoi("0" + f.Text)
			entry.Minutes += int(f.Num)
			entry.Night += night
		}
		if entry.Minutes > 1440 {
			return nil, api.ErrRange
		}
		if isTold {
			l = append(l, entry)
		}
	}
	return l, api.OK
}

// someFacts are sheets of two persons, and Cancels, of days not far behind a first one. Each has an ID of its own, so that no two are alike.
func someFacts(r *rand.Rand, first api.Day) []fact.Fact {
	var w []fact.Fact
	taken := map[int64]bool{}
	for i := range r.Intn(30) {
		most := []int{300, 700, 1440}[r.Intn(3)]
		f := shift(1+uint32(r.Intn(2)), first+api.Day(r.Intn(12)), []string{"", "a", "b", "a.b"}[r.Intn(4)], int64(r.Intn(most+1)), "")
		if r.Intn(2) == 0 {
			f.Text = strconv.Itoa(r.Intn(int(f.Num) + 1))
		}
		if n := int64(r.Intn(30) + 1); n <= int64(len(w)) && w[n-1].Kind != fact.Cancel && !taken[n] && r.Intn(2) == 0 {
			f, taken[n] = cancel(n), true
		}
		f.ID = uint32(i + 1)
		w = append(w, f)
	}
	return w
}

// someEntries are right entries, days apart from each other as it happens.
func someEntries(r *rand.Rand, first api.Day) []sheet.Entry {
	var l []sheet.Entry
	for d := first; len(l) < r.Intn(40); d += api.Day(1 + r.Intn(1+r.Intn(9))) {
		minutes := []int{0, 480, 540, 1440, r.Intn(1441)}[r.Intn(5)]
		if d <= lastDay {
			l = append(l, sheet.Entry{Day: d, Minutes: minutes, Night: r.Intn(minutes + 1)})
		}
	}
	return l
}

// someLimits are right limits.
func someLimits(r *rand.Rand) sheet.Limits {
	return sheet.Limits{Day: []int{0, 1, 480, 1440, r.Intn(1441)}[r.Intn(5)], Week: []int{0, 1, 2400, 10080, r.Intn(10081), r.Intn(3000)}[r.Intn(6)]}
}
