package leave_test

import (
	"fmt"
	"math"
	"math/rand"
	"slices"
	"testing"
	"time"

	"wagebook/api"
	"wagebook/fact"
	"wagebook/leave"
	"wagebook/store"
	"wagebook/week"
)

const (
	lowest   = api.Day(math.MinInt)
	highest  = api.Day(math.MaxInt)
	firstDay = api.Day(-25567)
	lastDay  = api.Day(84005)
	newYear  = api.Day(19723) // 2024-01-01, a Monday
)

// check fails the test, if something is another thing than was wanted.
func check[T comparable](t *testing.T, what string, got, wanted T) {
	t.Helper()
	if got != wanted {
		t.Errorf("%s: %v, wanted %v", what, got, wanted)
	}
}

// checkFold fails the test, if an account is another one than was wanted.
func checkFold(t *testing.T, what string, p leave.Plan, until api.Day, wanted leave.Account, l ...leave.Move) {
	t.Helper()
	got, e := leave.Fold(p, until, l...)
	check(t, "error of "+what, e, api.OK)
	check(t, what, got, wanted)
}

// checkRefused fails the test, if a fold has another error than was wanted, or an account beside it.
func checkRefused(t *testing.T, what string, wanted api.Errno, p leave.Plan, until api.Day, l ...leave.Move) {
	t.Helper()
	got, e := leave.Fold(p, until, l...)
	check(t, "error of "+what, e, wanted)
	check(t, "account beside it, of "+what, got, leave.Account{})
}

// checkMoves fails the test, if a person's moves are others than were wanted.
func checkMoves(t *testing.T, what string, v store.View, person uint32, p week.Pattern, until api.Day, wanted ...leave.Move) {
	t.Helper()
	got, e := leave.Moves(v, person, p, until)
	check(t, "error of "+what, e, api.OK)
	if !slices.Equal(got, wanted) {
		t.Errorf("%s: %.900s, wanted %.900s", what, fmt.Sprint(got), fmt.Sprint(wanted))
	}
}

// on is the day of a date.
func on(year, month, day int) api.Day {
	return api.Day(time.Date(year, time.Month(month), day, 0, 0, 0, 0, time.UTC).Unix() / 86400)
}

// dateOf is the date of a day, by another calendar than the program's.
func dateOf(d api.Day) (year, month, day int) {
	year, m, day := time.Unix(int64(d)*86400, 0).UTC().Date()
	return year, int(m), day
}

// gives is a move that grants.
func gives(d api.Day, granted int) leave.Move { return leave.Move{Day: d, Granted: granted} }

// takes is a move that takes.
func takes(d api.Day, taken int) leave.Move { return leave.Move{Day: d, Taken: taken} }

// sums is an account.
func sums(granted, taken, expired, left int) leave.Account {
	return leave.Account{Granted: granted, Taken: taken, Expired: expired, Left: left}
}

// grant is a fact that grants leave.
func grant(person uint32, d api.Day, num int64) fact.Fact {
	return fact.Fact{Person: person, Kind: fact.Grant, From: d, Num: num}
}

// away is a fact that tells an absence.
func away(person uint32, a, b api.Day, code string) fact.Fact {
	return fact.Fact{Person: person, Kind: fact.Absent, From: a, To: b, Code: code, Num: 1000000}
}

// cancel is a fact that takes one back.
func cancel(n int64) fact.Fact { return fact.Fact{Kind: fact.Cancel, Num: n} }

// stored is a store of these facts.
func stored(t *testing.T, l ...fact.Fact) store.Store {
	t.Helper()
	s, _, e := store.Store{}.Import(l...)
	if e != api.OK {
		t.Fatalf("Import: %v", e)
	}
	return s
}

// told is all that is known of a store of these facts.
func told(t *testing.T, l ...fact.Fact) store.View {
	t.Helper()
	s := stored(t, l...)
	return s.At(s.Len())
}

// office is full days from Monday to Friday.
func office(free ...api.Day) week.Pattern {
	return week.Pattern{Week: week.Week{480, 480, 480, 480, 480}, Free: free}
}

// foldByWords is the account as the chapter tells it, day by day.
func foldByWords(p leave.Plan, until api.Day, l []leave.Move) leave.Account {
	var a leave.Account
	fresh, carried := 0, 0
	for d := on(p.Year, 1, 1); d <= until; d++ {
		year, month, day := dateOf(d)
		if year > p.Year && month == 1 && day == 1 {
			if carried > 0 {
				a.Expired += carried
				carried = 0
			}
			if fresh > p.Carry {
				a.Expired += fresh - p.Carry
				fresh = p.Carry
			}
			if fresh > 0 {
				carried, fresh = fresh, 0
			}
		}
		if month == p.Expire+1 && day == 1 && carried > 0 {
			a.Expired += carried
			carried = 0
		}
		for _, m := range l {
			if m.Day != d {
				continue
			}
			a.Granted += m.Granted
			a.Taken += m.Taken
			fresh += m.Granted
			for range m.Taken { // one by one: from what is carried first
				if carried > 0 {
					carried--
				} else {
					fresh--
				}
			}
		}
	}
	a.Left = fresh + carried
	return a
}

// movesByWords is a person's moves, found day by day from the calendar's first one.
func movesByWords(w []fact.Fact, person uint32, p week.Pattern, until api.Day) []leave.Move {
	var l []leave.Move
	inForce := func(i int) bool {
		isTaken := slices.ContainsFunc(w, func(c fact.Fact) bool { return c.Kind == fact.Cancel && c.Num == int64(i+1) })
		return !isTaken && w[i].Person == person
	}
	for d := max(firstDay, until-60); d <= until; d++ { // the facts of which it is asked are told for days not farther back
		absence := ""
		for i, f := range w {
			if !inForce(i) {
				continue
			}
			if f.Kind == fact.Grant && f.From == d {
				l = append(l, gives(d, int(f.Num)))
			}
			if f.Kind == fact.Absent && f.From <= d && (f.To == 0 || d < f.To) {
				absence = f.Code
			}
		}
		weekday := (int(time.Unix(int64(d)*86400, 0).UTC().Weekday()) + 6) % 7
		if absence == "leave" && p.Week[weekday] > 0 && !slices.Contains(p.Free, d) {
			l = append(l, takes(d, 100))
		}
	}
	return l
}

// someMoves are moves of days that don't fall, from a year's first one on.
func someMoves(r *rand.Rand, year int) []leave.Move {
	var l []leave.Move
	d := on(year, 1, 1)
	for range r.Intn(14) {
		switch r.Intn(4) {
		case 0: // a month's first day, on which more happens
			y, m, _ := dateOf(d)
			d = on(y, m+1+r.Intn(8), 1)
		case 1, 2:
			d += api.Day(r.Intn(200))
		}
		if d > lastDay {
			return l
		}
		l = append(l, leave.Move{Day: d, Granted: r.Intn(2) * r.Intn(400), Taken: r.Intn(2) * r.Intn(300)})
	}
	return l
}

// someFacts are grants and absences of two persons, and Cancels, of days not far behind a first one.
func someFacts(r *rand.Rand, first api.Day) []fact.Fact {
	var w []fact.Fact
	taken := map[int64]bool{}
	for range r.Intn(16) {
		f := grant(1+uint32(r.Intn(2)), first+api.Day(r.Intn(20)), int64(r.Intn(3)))
		if r.Intn(3) > 0 {
			f = away(f.Person, f.From, 0, []string{"sick", "leave", "leave", "leave", "parental"}[r.Intn(5)])
		}
		if f.Kind == fact.Absent && r.Intn(5) > 0 {
			f.To = f.From + 1 + api.Day(r.Intn(12))
		}
		if n := int64(r.Intn(16) + 1); n <= int64(len(w)) && w[n-1].Kind != fact.Cancel && !taken[n] && r.Intn(3) == 0 {
			f, taken[n] = cancel(n), true
		}
		if f.Check() == api.OK { // near the calendar's end, and around 1970, some aren't
			w = append(w, f)
		}
	}
	return w
}

// somePattern is a right pattern, with free days behind a first one.
func somePattern(r *rand.Rand, first api.Day) week.Pattern {
	var p week.Pattern
	for i := range p.Week {
		p.Week[i] = r.Intn(4) * r.Intn(481)
	}
	for d := first; d < first+20; d++ {
		if firstDay <= d && d <= lastDay && r.Intn(5) == 0 {
			p.Free = append(p.Free, d)
		}
	}
	return p
}
