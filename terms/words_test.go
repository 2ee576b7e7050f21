package terms_test

import (
	"fmt"
	"math"
	"math/rand"
	"slices"
	"testing"

	"wagebook/api"
	"wagebook/fact"
	"wagebook/span"
	"wagebook/store"
	"wagebook/terms"
	"wagebook/week"
)

const (
	lowest   = api.Day(math.MinInt)
	highest  = api.Day(math.MaxInt)
	firstDay = api.Day(-25567)
	lastDay  = api.Day(84005)
	newYear  = api.Day(19723) // 2024-01-01
)

// check fails the test, if something is another thing than was wanted.
func check[T comparable](t *testing.T, what string, got, wanted T) {
	t.Helper()
	if got != wanted {
		t.Errorf("%s: %v, wanted %v", what, got, wanted)
	}
}

// checkList fails the test, if a list's elements are others than were wanted; without elements it may be nil or not.
func checkList[T comparable](t *testing.T, what string, got, wanted []T) {
	t.Helper()
	if !slices.Equal(got, wanted) {
		t.Errorf("%s: %.900s, wanted %.900s", what, fmt.Sprint(got), fmt.Sprint(wanted))
	}
}

// checkOf fails the test, if a person's terms are others than were wanted.
func checkOf(t *testing.T, what string, v store.View, person uint32, s api.Span, wanted ...terms.Terms) {
	t.Helper()
	got, e := terms.Of(v, person, s)
	check(t, "error of "+what, e, api.OK)
	checkList(t, what, got, wanted)
}

// from is the span of the days from a on, up to b.
func from(a, b api.Day) api.Span { return api.Span{From: a, To: b} }

// told is all that is known of a store of these facts, each added in turn.
func told(t *testing.T, l ...fact.Fact) store.View {
	t.Helper()
	s := stored(t, l...)
	return s.At(s.Len())
}

// stored is a store of these facts.
func stored(t *testing.T, l ...fact.Fact) store.Store {
	t.Helper()
	var s store.Store
	for _, f := range l {
		var e api.Errno
		if s, e = s.Add(f); e != api.OK {
			t.Fatalf("Add of %+v: %v", f, e)
		}
	}
	return s
}

// plain is the terms on days of which nothing was told.
func plain(s api.Span) terms.Terms {
	return terms.Terms{Span: s, Part: 1000000, Hours: week.Week{480, 480, 480, 480, 480, 0, 0}, Cost: "firm:1"}
}

// words is a view as the words have it: facts, one behind the other.
type words []fact.Fact

// inForce is the fact of a person, and a kind, that is in force on a day.
func (w words) inForce(person uint32, kind int, d api.Day) (fact.Fact, bool) {
	for i := len(w) - 1; i >= 0; i-- {
		isTaken := slices.ContainsFunc(w, func(f fact.Fact) bool { return f.Kind == fact.Cancel && f.Num == int64(i+1) })
		if f := w[i]; !isTaken && f.Person == person && f.Kind == kind && f.Covers(d) {
			return f, true
		}
	}
	return fact.Fact{}, false
}

// on is a person's terms on a day.
func (w words) on(person uint32, d api.Day) terms.Terms {
	x := plain(from(d, d+1))
	if f, ok := w.inForce(person, fact.Employ, d); ok {
		x.Employed = f.Num != 0
	}
	if f, ok := w.inForce(person, fact.Salary, d); ok {
		x.Salary = api.Cents(f.Num)
	}
	if f, ok := w.inForce(person, fact.Part, d); ok {
		x.Part = api.Rate(f.Num)
	}
	if f, ok := w.inForce(person, fact.Hours, d); ok {
		x.Hours = week.Week{}
		fmt.Sscan(f.Text, &x.Hours[0], &x.Hours[1], &x.Hours[2], &x.Hours[3], &x.Hours[4], &x.Hours[5], &x.Hours[6])
	}
	if f, ok := w.inForce(person, fact.Cost, d); ok {
		x.Cost = f.Text
	}
	return x
}

// of is a person's terms, put together day by day.
func (w words) of(person uint32, s api.Span) ([]terms.Terms, api.Errno) {
	var l []terms.Terms
	for d := s.From; d < s.To; d++ {
		if d < firstDay || d > lastDay {
			return nil, api.ErrSpan
		}
		x := w.on(person, d)
		if n := len(l); n > 0 && x.Employed == l[n-1].Employed && x.Salary == l[n-1].Salary && x.Part == l[n-1].Part && x.Hours == l[n-1].Hours && x.Cost == l[n-1].Cost {
			l[n-1].Span.To = d + 1
			continue
		}
		l = append(l, x)
	}
	return l, api.OK
}

// employed is a person's days, found day by day.
func (w words) employed(person uint32, s api.Span) []api.Span {
	var days []api.Span
	for d := s.From; d < s.To; d++ {
		if firstDay <= d && d <= lastDay && w.on(person, d).Employed {
			days = append(days, from(d, d+1))
		}
	}
	return span.Of(days...).All()
}

// first is the first one of a person's days from a day on, of those that the facts tell apart.
func (w words) first(person uint32, least api.Day) (api.Day, bool) {
	for d := least; d < least+60; d++ {
		if firstDay <= d && d <= lastDay && w.on(person, d).Employed {
			return d, true
		}
	}
	return 0, false
}

// someFacts are facts of two persons, and Cancels, of days not far behind a first one, in the order in which a store takes them.
func someFacts(r *rand.Rand, first api.Day) words {
	var w words
	taken := map[int64]bool{}
	for range r.Intn(24) {
		f := fact.Fact{Person: 1 + uint32(r.Intn(2)), Kind: 1 + r.Intn(5), From: first + api.Day(r.Intn(20))}
		f.To = f.From + 1 + api.Day(r.Intn(20))
		if r.Intn(4) == 0 {
			f.To = 0
		}
		switch f.Kind {
		case fact.Employ:
			f.Num = int64(r.Intn(2))
		case fact.Salary:
			f.Num = int64(r.Intn(3)) * 100
		case fact.Part:
			f.Num = []int64{0, 500000, 1000000}[r.Intn(3)]
		case fact.Hours:
			f.Text = []string{"480 480 480 480 480 0 0", "0 0 0 0 0 0 0", "1440 1 20 300 0 5 60"}[r.Intn(3)]
		case fact.Cost:
			f.Text = []string{"firm:1", "a:1 b:2", "b:2 a:1"}[r.Intn(3)]
		}
		if n := int64(r.Intn(24) + 1); n <= int64(len(w)) && w[n-1].Kind != fact.Cancel && !taken[n] && r.Intn(2) == 0 {
			f, taken[n] = fact.Fact{Kind: fact.Cancel, Num: n}, true
		}
		if f.Check() == api.OK { // near the calendar's end, and around 1970, some aren't
			w = append(w, f)
		}
	}
	return w
}
