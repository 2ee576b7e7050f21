package leave_test

import (
	"fmt"
	"math"
	"math/rand"
	"slices"
	"testing"

	"wagebook/api"
	"wagebook/fact"
	"wagebook/leave"
	"wagebook/store"
	"wagebook/week"
)

func TestP19_1Example(t *testing.T) {
	p := leave.Plan{Year: 2024, Carry: 500, Expire: 3}
	l := []leave.Move{gives(on(2024, 1, 1), 3000), takes(on(2024, 8, 1), 2000), takes(on(2025, 2, 1), 300)}
	for _, x := range []struct {
		until  api.Day
		wanted leave.Account
	}{
		{on(2023, 12, 31), sums(0, 0, 0, 0)},
		{on(2024, 1, 1), sums(3000, 0, 0, 3000)},
		{on(2024, 7, 31), sums(3000, 0, 0, 3000)},
		{on(2024, 8, 1), sums(3000, 2000, 0, 1000)},
		{on(2024, 12, 31), sums(3000, 2000, 0, 1000)},
		{on(2025, 1, 1), sums(3000, 2000, 500, 500)},
		{on(2025, 2, 1), sums(3000, 2300, 500, 200)},
		{on(2025, 3, 31), sums(3000, 2300, 500, 200)},
		{on(2025, 4, 1), sums(3000, 2300, 700, 0)},
		{on(2025, 12, 31), sums(3000, 2300, 700, 0)},
		{lastDay, sums(3000, 2300, 700, 0)},
	} {
		checkFold(t, fmt.Sprint("until ", x.until), p, x.until, x.wanted, l...)
	}
}

// TestP19_1Expire: each number of months, on the day ahead of the loss, and on its day, in leap years and others.
func TestP19_1Expire(t *testing.T) {
	for expire := range 13 {
		for _, year := range []int{1901, 1969, 1970, 1971, 2000, 2024, 2025, 2100, 2198} {
			p := leave.Plan{Year: year - 1, Carry: 1000000, Expire: expire}
			l := []leave.Move{gives(on(year-1, 12, 31), 70)}
			what := fmt.Sprint(expire, " months behind ", year, ", ")
			checkFold(t, what+"the year's end", p, on(year, 1, 1)-1, sums(70, 0, 0, 70), l...)
			if expire > 0 {
				checkFold(t, what+"the year's turn", p, on(year, 1, 1), sums(70, 0, 0, 70), l...)
			}
			checkFold(t, what+"the day ahead", p, on(year, 1+expire, 1)-1, sums(70, 0, 0, 70), l...)
			checkFold(t, what+"the day", p, on(year, 1+expire, 1), sums(70, 0, 70, 0), l...)
			checkFold(t, what+"the day behind", p, on(year, 1+expire, 2), sums(70, 0, 70, 0), l...)
		}
	}
}

// TestP19_1Turn: what is fresh at a year's end is carried up to Carry, and what is below 0 stays fresh.
func TestP19_1Turn(t *testing.T) {
	end, turn := on(2024, 12, 31), on(2025, 1, 1)
	for _, x := range []struct {
		fresh, carry int
		wanted       leave.Account
	}{
		{500, 500, sums(500, 0, 0, 500)},
		{501, 500, sums(501, 0, 1, 500)},
		{499, 500, sums(499, 0, 0, 499)},
		{500, 0, sums(500, 0, 500, 0)},
		{1, 0, sums(1, 0, 1, 0)},
		{0, 0, sums(0, 0, 0, 0)},
		{1000000, 1000000, sums(1000000, 0, 0, 1000000)},
		{1000000, 999999, sums(1000000, 0, 1, 999999)},
	} {
		checkFold(t, fmt.Sprint(x.fresh, " by ", x.carry), leave.Plan{Year: 2024, Carry: x.carry, Expire: 12}, turn, x.wanted, gives(end, x.fresh))
	}
	for _, expire := range []int{0, 3, 12} {
		p := leave.Plan{Year: 2024, Carry: 500, Expire: expire}
		checkFold(t, "below 0", p, on(2025, 12, 31), sums(0, 700, 0, -700), takes(end, 700))
		checkFold(t, "below 0, two years", p, on(2026, 12, 31), sums(0, 700, 0, -700), takes(end, 700))
		checkFold(t, "below 0, made good", p, on(2027, 12, 31), sums(700, 700, 0, 0), takes(end, 700), gives(on(2026, 6, 1), 700))
	}
	p := leave.Plan{Year: 2024, Carry: 500, Expire: 12}
	l := []leave.Move{gives(end, 500), gives(on(2025, 6, 1), 300)}
	checkFold(t, "fresh beside carried", p, on(2025, 12, 31), sums(800, 0, 0, 800), l...)
	checkFold(t, "carried isn't carried again", p, on(2026, 1, 1), sums(800, 0, 500, 300), l...)
	checkFold(t, "nor the third time", p, on(2027, 1, 1), sums(800, 0, 800, 0), l...)
}

// TestP19_1Day: on one day the year turns first, then what was carried is lost, then the moves count, one behind the other.
func TestP19_1Day(t *testing.T) {
	carried := gives(on(2024, 5, 5), 400)
	p := leave.Plan{Year: 2024, Carry: 100, Expire: 3}
	turn, loss := on(2025, 1, 1), on(2025, 4, 1)
	checkFold(t, "granted with the turn", p, turn, sums(600, 0, 300, 300), carried, gives(turn, 200))
	checkFold(t, "and that is fresh", p, loss, sums(600, 0, 400, 200), carried, gives(turn, 200))
	checkFold(t, "taken with the turn", p, turn, sums(400, 150, 300, -50), carried, takes(turn, 150))
	checkFold(t, "granted with the loss", p, loss, sums(600, 0, 400, 200), carried, gives(loss, 200))
	checkFold(t, "taken with the loss", p, loss, sums(400, 50, 400, -50), carried, takes(loss, 50))
	checkFold(t, "taken ahead of the loss", p, loss, sums(400, 50, 350, 0), carried, takes(loss-1, 50))
	checkFold(t, "taken up to the loss, and beyond", p, loss, sums(400, 150, 300, -50), carried, takes(loss-1, 100), takes(loss-1, 50))
	p.Expire = 0
	checkFold(t, "granted with turn and loss", p, turn, sums(600, 0, 400, 200), carried, gives(turn, 200))
	checkFold(t, "taken with turn and loss", p, turn, sums(400, 50, 400, -50), carried, takes(turn, 50))
	first := on(2024, 1, 1)
	checkFold(t, "the first day of all", p, first, sums(30, 10, 0, 20), leave.Move{Day: first, Granted: 30, Taken: 10})
	checkFold(t, "moves of one day", p, first, sums(30, 70, 0, -40), takes(first, 30), gives(first, 30), takes(first, 40))
}

// TestP19_1Carried: what is taken comes from what is carried first, so that less is lost later.
func TestP19_1Carried(t *testing.T) {
	p := leave.Plan{Year: 2024, Carry: 500, Expire: 6}
	for _, x := range []struct {
		taken  int
		wanted leave.Account
	}{
		{0, sums(800, 0, 500, 300)},
		{1, sums(800, 1, 499, 300)},
		{499, sums(800, 499, 1, 300)},
		{500, sums(800, 500, 0, 300)},
		{501, sums(800, 501, 0, 299)},
		{800, sums(800, 800, 0, 0)},
		{900, sums(800, 900, 0, -100)},
	} {
		l := []leave.Move{gives(on(2024, 1, 1), 500), {Day: on(2025, 3, 3), Granted: 300, Taken: x.taken}}
		checkFold(t, fmt.Sprint("takes ", x.taken), p, on(2025, 7, 1), x.wanted, l...)
		l = []leave.Move{l[0], gives(on(2025, 3, 3), 300), takes(on(2025, 3, 3), x.taken)}
		checkFold(t, fmt.Sprint("takes ", x.taken, " apart"), p, on(2025, 7, 1), x.wanted, l...)
	}
}

// TestP19_1Until: later moves count nowhere, but are looked at; ahead of the plan's Year there is nothing.
func TestP19_1Until(t *testing.T) {
	p := leave.Plan{Year: 2024, Carry: 500, Expire: 3}
	l := []leave.Move{gives(on(2024, 3, 3), 100), takes(on(2024, 3, 4), 30), gives(on(2026, 1, 1), 7)}
	checkFold(t, "ahead of all", p, on(2024, 3, 2), sums(0, 0, 0, 0), l...)
	checkFold(t, "the first", p, on(2024, 3, 3), sums(100, 0, 0, 100), l...)
	checkFold(t, "the second", p, on(2024, 3, 4), sums(100, 30, 0, 70), l...)
	checkFold(t, "ahead of the third", p, on(2025, 12, 31), sums(100, 30, 70, 0), l...)
	checkFold(t, "the third", p, on(2026, 1, 1), sums(107, 30, 70, 7), l...)
	for _, until := range []api.Day{firstDay, 0, on(2023, 12, 31)} {
		checkFold(t, "ahead of the plan's Year", p, until, leave.Account{}, l...)
		checkRefused(t, "a later move", api.ErrRange, p, until, takes(on(2024, 1, 1), -1))
		checkRefused(t, "a later move", api.ErrDay, p, until, takes(on(2023, 12, 31), 1))
	}
	checkRefused(t, "a later move", api.ErrOrder, p, on(2024, 1, 1), l[1], l[0])
	checkFold(t, "no moves", p, lastDay, leave.Account{})
}

// TestP19_1Calendar: the calendar's first year, and its last one, behind which there is no month.
func TestP19_1Calendar(t *testing.T) {
	first := leave.Plan{Year: 1900, Carry: 40, Expire: 12}
	checkFold(t, "the first day", first, firstDay, sums(100, 0, 0, 100), gives(firstDay, 100))
	checkFold(t, "the first year", first, on(1900, 12, 31), sums(100, 0, 0, 100), gives(firstDay, 100))
	checkFold(t, "the second year", first, on(1901, 12, 31), sums(100, 0, 60, 40), gives(firstDay, 100))
	checkFold(t, "all years", first, lastDay, sums(101, 1, 100, 0), gives(firstDay, 100), leave.Move{Day: lastDay, Granted: 1, Taken: 1})
	last := leave.Plan{Year: 2199, Carry: 40, Expire: 12}
	checkFold(t, "the last year", last, lastDay, sums(100, 0, 0, 100), gives(on(2199, 1, 1), 100))
	last.Year = 2198
	checkFold(t, "not within the last year", last, lastDay, sums(100, 0, 60, 40), gives(on(2198, 1, 1), 100))
	last.Expire = 11
	checkFold(t, "ahead of the last month", last, on(2199, 11, 30), sums(100, 0, 60, 40), gives(on(2198, 1, 1), 100))
	checkFold(t, "the last month", last, lastDay, sums(100, 0, 100, 0), gives(on(2198, 1, 1), 100))
}

// TestP19_1Long: years in which nothing happens change nothing, but those that have something to lose do.
func TestP19_1Long(t *testing.T) {
	p := leave.Plan{Year: 1950, Carry: 500, Expire: 12}
	checkFold(t, "a move, late", p, lastDay, sums(7, 0, 0, 7), gives(on(2199, 2, 2), 7))
	checkFold(t, "moves, far apart", p, on(2150, 12, 31), sums(907, 0, 900, 7), gives(on(1950, 1, 1), 900), gives(on(2150, 1, 1), 7))
	checkFold(t, "moves of nothing", p, on(2102, 1, 1), sums(9, 0, 9, 0), gives(on(1960, 1, 1), 0), gives(on(1990, 1, 1), 0), gives(on(2100, 1, 1), 9))
	checkFold(t, "owed for long", p, on(2150, 12, 31), sums(5, 9, 0, -4), takes(on(1950, 1, 1), 9), gives(on(2150, 12, 31), 5))
}

func TestP19_1Plan(t *testing.T) {
	for _, p := range []leave.Plan{
		{}, {Year: 1899}, {Year: 2200}, {Year: -2024}, {Year: math.MinInt}, {Year: math.MaxInt},
		{Year: 2024, Carry: -1}, {Year: 2024, Carry: 1000001}, {Year: 2024, Carry: math.MinInt}, {Year: 2024, Carry: math.MaxInt},
		{Year: 2024, Expire: -1}, {Year: 2024, Expire: 13}, {Year: 2024, Expire: math.MinInt}, {Year: 2024, Expire: math.MaxInt},
	} {
		checkRefused(t, fmt.Sprint(p), api.ErrRange, p, newYear)
		checkRefused(t, fmt.Sprint(p), api.ErrRange, p, newYear, gives(newYear, 1))
	}
	for _, p := range []leave.Plan{
		{Year: 1900}, {Year: 2199}, {Year: 2024}, {Year: 2024, Carry: 1000000}, {Year: 2024, Expire: 12}, {Year: 2199, Carry: 1000000, Expire: 12},
	} {
		checkFold(t, fmt.Sprint(p), p, lastDay, leave.Account{})
	}
}

func TestP19_1Days(t *testing.T) {
	p := leave.Plan{Year: 1900}
	for _, d := range []api.Day{firstDay - 1, lastDay + 1, lowest, highest} {
		checkRefused(t, fmt.Sprint("until ", d), api.ErrDay, p, d)
		checkRefused(t, fmt.Sprint("a move on ", d), api.ErrDay, p, newYear, gives(d, 1))
		checkRefused(t, fmt.Sprint("a second move on ", d), api.ErrDay, p, newYear, gives(newYear, 1), gives(d, 1))
	}
	checkFold(t, "the calendar's ends", p, firstDay, sums(1, 0, 0, 1), gives(firstDay, 1), gives(lastDay, 1))
	p.Year = 2024
	checkRefused(t, "the day ahead of the plan", api.ErrDay, p, lastDay, gives(newYear-1, 1))
	checkFold(t, "the plan's first day", p, newYear, sums(1, 0, 0, 1), gives(newYear, 1))
}

func TestP19_1Moves(t *testing.T) {
	p := leave.Plan{Year: 2024, Carry: 1000000, Expire: 12}
	for _, n := range []int{-1, 1000001, math.MinInt, math.MaxInt} {
		checkRefused(t, fmt.Sprint("granted ", n), api.ErrRange, p, newYear, gives(newYear, n))
		checkRefused(t, fmt.Sprint("taken ", n), api.ErrRange, p, newYear, takes(newYear, n))
		checkRefused(t, fmt.Sprint("a later one, ", n), api.ErrRange, p, newYear, gives(newYear, 5), takes(lastDay, n))
	}
	checkFold(t, "the most", p, newYear, sums(1000000, 1000000, 0, 0), leave.Move{Day: newYear, Granted: 1000000, Taken: 1000000})
	checkRefused(t, "one that falls", api.ErrOrder, p, newYear, gives(newYear+1, 1), gives(newYear, 1))
	checkRefused(t, "a third one that falls", api.ErrOrder, p, newYear, gives(newYear, 1), gives(newYear+2, 1), gives(newYear+1, 1))
	checkFold(t, "two of one day", p, newYear, sums(2, 0, 0, 2), gives(newYear, 1), gives(newYear, 1))
	many := slices.Repeat([]leave.Move{{Day: newYear, Granted: 1000000}}, api.MaxFacts+1)
	checkRefused(t, "too many", api.ErrMany, p, newYear, many...)
	checkFold(t, "as many as there may be", p, newYear, sums(4096000000, 0, 0, 4096000000), many[1:]...)
	checkFold(t, "and what is carried of them", p, on(2025, 1, 1), sums(4096000000, 0, 4095000000, 1000000), many[1:]...)
}

// TestP19_1Order makes everything wrong, and mends it in the order in which errors are told.
func TestP19_1Order(t *testing.T) {
	p, until := leave.Plan{Year: 2023, Expire: 13}, lastDay+1
	l := slices.Repeat([]leave.Move{{Day: newYear - 366, Granted: -1}}, api.MaxFacts+1)
	for i, step := range []struct {
		wanted api.Errno
		mend   func()
	}{
		{api.ErrRange, func() { p.Expire = 12 }},
		{api.ErrDay, func() { until = newYear }},
		{api.ErrMany, func() { l = l[:3] }},
		{api.ErrDay, func() { l[0].Day = newYear }},
		{api.ErrRange, func() { l[0].Granted, l[0].Taken = 0, -1 }},
		{api.ErrRange, func() { l[0].Taken = 0 }},
		{api.ErrDay, func() { l[1].Day = newYear - 365 }},
		{api.ErrOrder, func() { l[1].Day = newYear }},
		{api.ErrRange, func() { l[1].Granted = 0 }},
		{api.ErrDay, func() { l[2] = l[1] }},
	} {
		checkRefused(t, fmt.Sprint("step ", i), step.wanted, p, until, l...)
		step.mend()
	}
	checkFold(t, "all mended", p, until, leave.Account{}, l...)
}

func TestP19_1ByWords(t *testing.T) {
	r := rand.New(rand.NewSource(191))
	for range 1500 {
		p := leave.Plan{Year: []int{1900, 1967, 2023, 2195}[r.Intn(4)], Carry: r.Intn(3) * r.Intn(300), Expire: r.Intn(13)}
		l := someMoves(r, p.Year)
		until := min(on(p.Year, 1, 1)+api.Day(r.Intn(2000)-100), lastDay)
		if r.Intn(3) == 0 {
			year, month, _ := dateOf(until)
			until = on(year, month, 1)
		}
		until = max(until, firstDay)
		checkFold(t, fmt.Sprint(p, " until ", until, " of ", l), p, until, foldByWords(p, until, l), l...)
	}
}

func TestP19_2Example(t *testing.T) {
	v := told(t, grant(1, newYear, 3000), away(1, newYear+4, newYear+9, "leave"), away(1, newYear+8, newYear+9, "sick"), grant(1, newYear+4, 50), grant(1, newYear+4, 0), grant(2, newYear, 1))
	all := []leave.Move{gives(newYear, 3000), gives(newYear+4, 50), gives(newYear+4, 0), takes(newYear+4, 100), takes(newYear+7, 100)}
	checkMoves(t, "all", v, 1, office(), lastDay, all...)
	checkMoves(t, "the last of them", v, 1, office(), newYear+7, all...)
	checkMoves(t, "the day ahead of it", v, 1, office(), newYear+6, all[:4]...)
	checkMoves(t, "that day", v, 1, office(), newYear+4, all[:4]...)
	checkMoves(t, "the day ahead of that", v, 1, office(), newYear+3, all[:1]...)
	checkMoves(t, "the first one", v, 1, office(), newYear, all[0])
	checkMoves(t, "ahead of it", v, 1, office(), newYear-1)
	checkMoves(t, "with free days", v, 1, office(newYear, newYear+4), lastDay, all[0], all[1], all[2], all[4])
	checkMoves(t, "on weekends", v, 1, week.Pattern{Week: week.Week{0, 0, 0, 0, 0, 1, 1440}}, lastDay, all[0], all[1], all[2], takes(newYear+5, 100), takes(newYear+6, 100))
	checkMoves(t, "without a pattern", v, 1, week.Pattern{}, lastDay, all[:3]...)
	checkMoves(t, "another person", v, 2, office(), lastDay, gives(newYear, 1))
	checkMoves(t, "somebody else", v, 3, office(), lastDay)
	checkMoves(t, "the firm", v, 0, office(), lastDay)
	checkMoves(t, "the zero view", store.View{}, 1, office(), lastDay)
}

// TestP19_2Kinds: only days of leave are taken, however they are paid, and only by the fact in force.
func TestP19_2Kinds(t *testing.T) {
	for _, code := range []string{"sick", "unpaid", "parental"} {
		v := told(t, away(1, newYear, newYear+5, code), away(1, newYear+3, newYear+4, "leave"))
		checkMoves(t, code, v, 1, office(), lastDay, takes(newYear+3, 100))
		v = told(t, away(1, newYear+3, newYear+5, "leave"), away(1, newYear, newYear+4, code))
		checkMoves(t, code+", told later", v, 1, office(), lastDay, takes(newYear+4, 100))
	}
	unpaid := away(1, newYear, newYear+1, "leave")
	unpaid.Num = 0
	checkMoves(t, "not paid", told(t, unpaid), 1, office(), lastDay, takes(newYear, 100))
	checkMoves(t, "told twice", told(t, unpaid, unpaid), 1, office(), lastDay, takes(newYear, 100))
}

func TestP19_2AsItWasKnown(t *testing.T) {
	s := stored(t, grant(1, 5, 10), away(1, 4, 5, "leave"), cancel(1), grant(1, 4, 20), cancel(2), grant(1, 3, 30))
	all := week.Pattern{Week: week.Week{1, 1, 1, 1, 1, 1, 1}}
	for n, wanted := range [][]leave.Move{
		{},
		{gives(5, 10)},
		{takes(4, 100), gives(5, 10)},
		{takes(4, 100)},
		{gives(4, 20), takes(4, 100)},
		{gives(4, 20)},
		{gives(3, 30), gives(4, 20)},
	} {
		checkMoves(t, fmt.Sprint("behind ", n), s.At(n), 1, all, lastDay, wanted...)
	}
}

func TestP19_2Calendar(t *testing.T) {
	all := week.Pattern{Week: week.Week{1, 1, 1, 1, 1, 1, 1}}
	v := told(t, away(1, firstDay, firstDay+2, "leave"), away(1, lastDay, 0, "leave"), grant(1, firstDay, 1), grant(1, lastDay, 2))
	checkMoves(t, "the whole calendar", v, 1, all, lastDay, gives(firstDay, 1), takes(firstDay, 100), takes(firstDay+1, 100), gives(lastDay, 2), takes(lastDay, 100))
	checkMoves(t, "its first day", v, 1, all, firstDay, gives(firstDay, 1), takes(firstDay, 100))
	checkMoves(t, "but the last day", v, 1, all, lastDay-1, gives(firstDay, 1), takes(firstDay, 100), takes(firstDay+1, 100))
}

func TestP19_2Errors(t *testing.T) {
	v := told(t, grant(1, 5, 10), away(1, firstDay, 0, "leave"))
	wrong := map[string]week.Pattern{
		"too many minutes": {Week: week.Week{480, 480, 480, 480, 480, 480, 1441}},
		"minutes below 0":  {Week: week.Week{-1}},
		"too many days":    {Week: week.Week{480}, Free: make([]api.Day, api.MaxFacts+1)},
		"a day too early":  {Week: week.Week{480}, Free: []api.Day{firstDay - 1, 5}},
		"a day twice":      {Week: week.Week{480}, Free: []api.Day{5, 7, 7}},
	}
	refused := func(what string, wanted api.Errno, p week.Pattern, until api.Day) {
		t.Helper()
		for _, person := range []uint32{0, 1, 2} {
			l, e := leave.Moves(v, person, p, until)
			check(t, "error of "+what, e, wanted)
			check(t, "moves beside it", len(l), 0)
		}
	}
	for what, p := range wrong {
		refused(what, p.Check(), p, lastDay)
		refused(what, p.Check(), p, firstDay)
	}
	for _, d := range []api.Day{firstDay - 1, lastDay + 1, lowest, highest} {
		refused(fmt.Sprint("until ", d), api.ErrDay, office(), d)
		refused(fmt.Sprint("until ", d), api.ErrDay, wrong["minutes below 0"], d)
	}
}

// TestP19_2Many: as many moves as there may be, and one more.
func TestP19_2Many(t *testing.T) {
	all := week.Pattern{Week: week.Week{1, 1, 1, 1, 1, 1, 1}}
	refused := func(what string, v store.View, until api.Day) {
		t.Helper()
		l, e := leave.Moves(v, 1, all, until)
		check(t, "error of "+what, e, api.ErrMany)
		check(t, "moves beside it", len(l), 0)
	}
	count := func(what string, v store.View, until api.Day) {
		t.Helper()
		l, e := leave.Moves(v, 1, all, until)
		check(t, "error of "+what, e, api.OK)
		check(t, what, len(l), api.MaxFacts)
	}
	v := told(t, away(1, 100, 0, "leave"))
	count("4096 days", v, 100+4095)
	refused("4097 days", v, 100+4096)
	refused("all days", v, lastDay)
	v = told(t, away(1, 100, 0, "leave"), grant(1, 50, 1), grant(1, lastDay, 1))
	count("4095 days, and a grant", v, 100+4094)
	refused("4096 days, and a grant", v, 100+4095)
	grants := slices.Repeat([]fact.Fact{grant(1, 7, 3)}, api.MaxFacts-1)
	s := stored(t, append(grants, away(1, 7, 0, "leave"))...)
	count("4095 grants, and a day", s.At(s.Len()), 7)
	refused("4095 grants, and two days", s.At(s.Len()), 8)
	l, e := leave.Moves(s.At(s.Len()), 2, all, 8)
	check(t, "error of another person", e, api.OK)
	check(t, "moves of another person", len(l), 0)
}

func TestP19_2ByWords(t *testing.T) {
	r := rand.New(rand.NewSource(192))
	for range 2500 {
		first := []api.Day{firstDay, lastDay - 40, -10, newYear}[r.Intn(4)]
		w := someFacts(r, first)
		s := stored(t, w...)
		n := r.Intn(len(w) + 1)
		p := somePattern(r, first)
		until := first + api.Day(r.Intn(40))
		for person := range uint32(3) {
			checkMoves(t, fmt.Sprint(w[:n], p, until), s.At(n), person, p, until, movesByWords(w[:n], person, p, until)...)
		}
	}
}

func TestP19_3Text(t *testing.T) {
	for text, a := range map[string]leave.Account{
		"0 0 0 0":            {},
		"3000 2300 700 0":    sums(3000, 2300, 700, 0),
		"1 20 300 -4000":     sums(1, 20, 300, -4000),
		"-1 -20 -300 -4":     sums(-1, -20, -300, -4),
		"0 700 0 -700":       sums(0, 700, 0, -700),
		"4096000000 0 0 100": sums(4096000000, 0, 0, 100),
		"-9223372036854775808 9223372036854775807 -9223372036854775808 9223372036854775807": sums(math.MinInt, math.MaxInt, math.MinInt, math.MaxInt),
	} {
		check(t, "Text", a.Text(), text)
	}
}

// TestP19_4Follows: sums add up, later moves change no earlier account, and where nothing is lost all is taken or left.
func TestP19_4Follows(t *testing.T) {
	r := rand.New(rand.NewSource(194))
	for range 1500 {
		p := leave.Plan{Year: 2000 + r.Intn(5), Carry: r.Intn(3) * r.Intn(300), Expire: r.Intn(13)}
		l := someMoves(r, p.Year)
		until := on(p.Year, 1, 1) + api.Day(r.Intn(2500))
		what := fmt.Sprint(p, " until ", until, " of ", l)
		a, e := leave.Fold(p, until, l...)
		check(t, "error of "+what, e, api.OK)
		check(t, "what was granted, "+what, a.Granted, a.Taken+a.Expired+a.Left)
		n := slices.IndexFunc(l, func(m leave.Move) bool { return m.Day > until })
		if n >= 0 {
			checkFold(t, "without later moves, "+what, p, until, a, l[:n]...)
		}
		year, _, _ := dateOf(until)
		if year == p.Year {
			check(t, "lost ahead of a year's end, "+what, a.Expired, 0)
		}
	}
	p := leave.Plan{Year: 2024, Carry: 1000000, Expire: 12}
	for range 300 { // one turn with nothing to lose
		l := someMoves(r, 2024)
		a, _ := leave.Fold(p, on(2025, 12, 31), l...)
		check(t, fmt.Sprint("nothing is lost of ", l), a.Expired, 0)
		check(t, fmt.Sprint("taken, or left, of ", l), a.Granted, a.Taken+a.Left)
	}
}

// TestP19_4MovesFolded: what is told of a person is folded as it stands.
func TestP19_4MovesFolded(t *testing.T) {
	v := told(t, grant(1, on(2024, 1, 1), 1000), away(1, on(2024, 7, 1), on(2024, 7, 8), "leave"), away(1, on(2025, 3, 31), on(2025, 4, 3), "leave"), grant(1, on(2025, 1, 1), 1000))
	p := leave.Plan{Year: 2024, Carry: 200, Expire: 3}
	for until, wanted := range map[api.Day]leave.Account{
		on(2024, 12, 31): sums(1000, 500, 0, 500),
		on(2025, 1, 1):   sums(2000, 500, 300, 1200),
		on(2025, 3, 31):  sums(2000, 600, 300, 1100),
		on(2025, 12, 31): sums(2000, 800, 400, 800),
	} {
		l, e := leave.Moves(v, 1, office(), until)
		check(t, "error", e, api.OK)
		checkFold(t, fmt.Sprint("until ", until), p, until, wanted, l...)
	}
}

// TestMemory: what is handed in stays as it was, spare room included; answers are new memory.
func TestMemory(t *testing.T) {
	l := []leave.Move{gives(newYear, 900), takes(newYear+400, 50), gives(newYear+400, 7), takes(newYear, 1)}
	kept := slices.Clone(l)
	p := leave.Plan{Year: 2024, Carry: 500, Expire: 2}
	_, _ = leave.Fold(p, lastDay, l[:3]...)
	_, _ = leave.Fold(p, lastDay, l...)
	if !slices.Equal(l, kept) {
		t.Errorf("moves that were handed in: %v, wanted %v", l, kept)
	}
	free := []api.Day{newYear + 1, newYear + 2, 9}
	v := told(t, grant(1, newYear, 3), away(1, newYear, newYear+4, "leave"))
	got, _ := leave.Moves(v, 1, office(free[:2]...), lastDay)
	if !slices.Equal(free, []api.Day{newYear + 1, newYear + 2, 9}) {
		t.Errorf("free days that were handed in: %v", free)
	}
	got[0].Granted = -1
	_ = append(got[:1], takes(5, 5))
	checkMoves(t, "moves, again", v, 1, office(free[:2]...), lastDay, gives(newYear, 3), takes(newYear, 100), takes(newYear+3, 100))
}
