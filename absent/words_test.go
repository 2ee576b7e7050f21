package absent_test

import (
	"fmt"
	"math"
	"math/rand"
	"slices"
	"testing"
	"time"

	"wagebook/absent"
	"wagebook/api"
	"wagebook/fact"
	"wagebook/store"
	"wagebook/week"
)

const (
	lowest   = api.Day(math.MinInt)
	highest  = api.Day(math.MaxInt)
	firstDay = api.Day(-25567)
	lastDay  = api.Day(84005)
	monday   = api.Day(19786) // 2024-03-04
)

// check fails the test, if something is another thing than was wanted.
func check[T comparable](t *testing.T, what string, got, wanted T) {
	t.Helper()
	if got != wanted {
		t.Errorf("%s: %v, wanted %v", what, got, wanted)
	}
}

// checkList fails the test, if a list's elements are others than were wanted; without elements it may be nil or not.
func checkList[T comparable](t *testing.T, what string, got, wanted []T) {
	t.Helper()
	if !slices.Equal(got, wanted) {
		t.Errorf("%s: %.900s, wanted %.900s", what, fmt.Sprint(got), fmt.Sprint(wanted))
	}
}

// checkOf fails the test, if a person's absences are others than were wanted.
func checkOf(t *testing.T, what string, v store.View, person uint32, s api.Span, wanted ...absent.Absence) {
	t.Helper()
	got, e := absent.Of(v, person, s)
	check(t, "error of "+what, e, api.OK)
	checkList(t, what, got, wanted)
}

// from is the span of the days from a on, up to b.
func from(a, b api.Day) api.Span { return api.Span{From: a, To: b} }

// always is the span of all days.
func always() api.Span { return from(lowest, highest) }

// calendar is the span of all days of the calendar.
func calendar() api.Span { return from(firstDay, lastDay+1) }

// away is an absence.
func away(a, b api.Day, kind int, paid api.Rate, n int) absent.Absence {
	return absent.Absence{Span: from(a, b), Kind: kind, Paid: paid, N: n}
}

// tells is a fact that tells an absence.
func tells(person uint32, a, b api.Day, code string, paid int64) fact.Fact {
	return fact.Fact{Person: person, Kind: fact.Absent, From: a, To: b, Code: code, Num: paid}
}

// cancel is a fact that takes one back.
func cancel(n int64) fact.Fact { return fact.Fact{Kind: fact.Cancel, Num: n} }

// stored is a store of these facts, each added in turn.
func stored(t *testing.T, l ...fact.Fact) store.Store {
	t.Helper()
	var s store.Store
	for _, f := range l {
		var e api.Errno
		if s, e = s.Add(f); e != api.OK {
			t.Fatalf("Add of %+v: %v", f, e)
		}
	}
	return s
}

// told is all that is known of a store of these facts.
func told(t *testing.T, l ...fact.Fact) store.View {
	t.Helper()
	s := stored(t, l...)
	return s.At(s.Len())
}

// office is full days from Monday to Friday.
func office() week.Pattern { return week.Pattern{Week: week.Week{480, 480, 480, 480, 480}} }

// kindByWords is a code's kind.
func kindByWords(code string) int {
	return map[string]int{"sick": 0, "leave": 1, "unpaid": 2, "parental": 3}[code]
}

// ofByWords is a person's absences, found day by day.
func ofByWords(w []fact.Fact, person uint32, s api.Span) ([]absent.Absence, api.Errno) {
	var l []absent.Absence
	for d := s.From; d < s.To; d++ {
		if d < firstDay || d > lastDay {
			return nil, api.ErrSpan
		}
		for i := len(w) - 1; i >= 0; i-- {
			f := w[i]
			isTaken := slices.ContainsFunc(w, func(c fact.Fact) bool { return c.Kind == fact.Cancel && c.Num == int64(i+1) })
			if f.Kind != fact.Absent || f.Person != person || isTaken || d < f.From || f.To != 0 && d >= f.To {
				continue
			}
			if n := len(l); n > 0 && l[n-1].N == i+1 && l[n-1].Span.To == d {
				l[n-1].Span.To++
			} else {
				l = append(l, away(d, d+1, kindByWords(f.Code), api.Rate(f.Num), i+1))
			}
			break
		}
	}
	return l, api.OK
}

// minutesByWords is the minutes, and the days with any, of a kind's absences, day by day, by another calendar than the program's.
func minutesByWords(l []absent.Absence, p week.Pattern, s api.Span, kind int) (int, int) {
	minutes, days := 0, 0
	for d := max(s.From, firstDay); d < min(s.To, lastDay+1); d++ {
		isAway := slices.ContainsFunc(l, func(a absent.Absence) bool { return a.Kind == kind && a.Span.From <= d && d < a.Span.To })
		if !isAway || slices.Contains(p.Free, d) {
			continue
		}
		sunday0 := int(time.Unix(int64(d)*86400, 0).UTC().Weekday())
		if n := p.Week[(sunday0+6)%7]; n != 0 {
			minutes += n
			days++
		}
	}
	return minutes, days
}

// someFacts are absences of two persons, and Cancels, of days not far behind a first one.
func someFacts(r *rand.Rand, first api.Day) []fact.Fact {
	var w []fact.Fact
	taken := map[int64]bool{}
	for range r.Intn(16) {
		f := tells(1+uint32(r.Intn(2)), first+api.Day(r.Intn(20)), 0, []string{"sick", "leave", "unpaid", "parental"}[r.Intn(4)], int64(r.Intn(5))*250000)
		if r.Intn(4) > 0 {
			f.To = f.From + 1 + api.Day(r.Intn(12))
		}
		if n := int64(r.Intn(16) + 1); n <= int64(len(w)) && w[n-1].Kind != fact.Cancel && !taken[n] && r.Intn(2) == 0 {
			f, taken[n] = cancel(n), true
		}
		if f.Check() == api.OK { // near the calendar's end, and around 1970, some aren't
			w = append(w, f)
		}
	}
	return w
}

// somePattern is a right pattern, with free days behind a first one.
func somePattern(r *rand.Rand, first api.Day) week.Pattern {
	var p week.Pattern
	for i := range p.Week {
		p.Week[i] = r.Intn(3) * r.Intn(721)
	}
	for d := first; d < first+20; d++ {
		if firstDay <= d && d <= lastDay && r.Intn(5) == 0 {
			p.Free = append(p.Free, d)
		}
	}
	return p
}
