package span_test

import (
	"fmt"
	"math"
	"math/big"
	"math/rand"
	"slices"
	"testing"

	"wagebook/api"
	"wagebook/span"
)

const (
	lowest  = api.Day(math.MinInt)
	highest = api.Day(math.MaxInt)
	most    = 1 << 62
)

// from is the span of the days from a on, up to b.
func from(a, b api.Day) api.Span { return api.Span{From: a, To: b} }

// checkSpans fails the test, if spans are others than were wanted.
func checkSpans(t *testing.T, what string, got []api.Span, wanted ...api.Span) {
	t.Helper()
	if !slices.Equal(got, wanted) {
		t.Errorf("%s: %v, wanted %v", what, got, wanted)
	}
}

// check fails the test, if something is another thing than was wanted.
func check[T comparable](t *testing.T, what string, got, wanted T) {
	t.Helper()
	if got != wanted {
		t.Errorf("%s: %v, wanted %v", what, got, wanted)
	}
}

// edges are days about which something may go wrong.
func edges() []api.Day {
	return []api.Day{lowest, lowest + 1, -most - 1, -most, -1, 0, 1, 2, most - 1, most, most + 1, highest - 1, highest}
}

// someSpans are spans of a few days near 0, empty ones among them.
func someSpans(r *rand.Rand) []api.Span {
	l := make([]api.Span, r.Intn(7))
	for i := range l {
		l[i] = from(api.Day(r.Intn(24)-12), api.Day(r.Intn(24)-12))
	}
	return l
}

// has tells, span by span, whether a day is in one of them.
func has(l []api.Span, d api.Day) bool {
	return slices.ContainsFunc(l, func(s api.Span) bool { return s.From <= d && d < s.To })
}

// byDays are the spans of the days near 0 that are asked for, found day by day.
func byDays(asked func(d api.Day) bool) []api.Span {
	var l []api.Span
	for d := api.Day(-20); d < 20; d++ {
		if !asked(d) {
			continue
		}
		if !asked(d - 1) {
			l = append(l, from(d, d))
		}
		l[len(l)-1].To = d + 1
	}
	return l
}

// checkForm fails the test, if a set's spans aren't of the form that the chapter says.
func checkForm(t *testing.T, s span.Set) {
	t.Helper()
	l := s.All()
	for i, x := range l {
		if x.From >= x.To || i > 0 && l[i-1].To >= x.From {
			t.Errorf("spans %v", l)
		}
	}
}

func TestP5_1Of(t *testing.T) {
	for i, x := range []struct{ l, wanted []api.Span }{
		{nil, nil},
		{[]api.Span{{}}, nil},
		{[]api.Span{from(9, 9), from(9, 3), from(highest, lowest), from(lowest, lowest), from(highest, highest)}, nil},
		{[]api.Span{from(1, 3)}, []api.Span{from(1, 3)}},
		{[]api.Span{from(1, 3), from(3, 5), from(9, 9), from(7, 8)}, []api.Span{from(1, 5), from(7, 8)}},
		{[]api.Span{from(7, 8), from(9, 9), from(3, 5), from(1, 3)}, []api.Span{from(1, 5), from(7, 8)}},
		{[]api.Span{from(1, 3), from(1, 3), from(1, 3)}, []api.Span{from(1, 3)}},
		{[]api.Span{from(1, 9), from(3, 5)}, []api.Span{from(1, 9)}},
		{[]api.Span{from(1, 9), from(1, 5), from(5, 9)}, []api.Span{from(1, 9)}},
		{[]api.Span{from(3, 5), from(1, 9)}, []api.Span{from(1, 9)}},
		{[]api.Span{from(1, 4), from(3, 6)}, []api.Span{from(1, 6)}},
		{[]api.Span{from(3, 6), from(1, 4)}, []api.Span{from(1, 6)}},
		{[]api.Span{from(1, 3), from(4, 6)}, []api.Span{from(1, 3), from(4, 6)}},
		{[]api.Span{from(4, 6), from(1, 3), from(3, 4)}, []api.Span{from(1, 6)}},
		{[]api.Span{from(1, 10), from(2, 3), from(4, 5), from(6, 12)}, []api.Span{from(1, 12)}},
		{[]api.Span{from(1, 3), from(3, 3), from(5, 2), from(4, 6)}, []api.Span{from(1, 3), from(4, 6)}},
		{[]api.Span{from(-3, -1), from(-1, 1)}, []api.Span{from(-3, 1)}},
		{[]api.Span{from(lowest, 0), from(0, highest)}, []api.Span{from(lowest, highest)}},
		{[]api.Span{from(highest-1, highest), from(lowest, lowest+1)}, []api.Span{from(lowest, lowest+1), from(highest-1, highest)}},
		{[]api.Span{from(lowest, highest), from(highest-1, highest), from(lowest, 7)}, []api.Span{from(lowest, highest)}},
	} {
		s := span.Of(x.l...)
		checkSpans(t, fmt.Sprint("set ", i), s.All(), x.wanted...)
		checkForm(t, s)
	}
}

func TestP5_1Together(t *testing.T) {
	s, u := span.Of(from(1, 5), from(7, 8)), span.Of(from(4, 10))
	checkSpans(t, "union", s.Union(u).All(), from(1, 10))
	checkSpans(t, "union back", u.Union(s).All(), from(1, 10))
	checkSpans(t, "meet", s.Meet(u).All(), from(4, 5), from(7, 8))
	checkSpans(t, "meet back", u.Meet(s).All(), from(4, 5), from(7, 8))
	checkSpans(t, "minus", s.Minus(u).All(), from(1, 4))
	checkSpans(t, "minus back", u.Minus(s).All(), from(5, 7), from(8, 10))
	checkSpans(t, "minus a middle", s.Minus(span.Of(from(2, 4))).All(), from(1, 2), from(4, 5), from(7, 8))
	checkSpans(t, "minus what touches", s.Minus(span.Of(from(5, 7), from(0, 1))).All(), from(1, 5), from(7, 8))
	checkSpans(t, "union with what touches", s.Union(span.Of(from(5, 7))).All(), from(1, 8))
	checkSpans(t, "meet with what touches", s.Meet(span.Of(from(5, 7))).All())
	checkSpans(t, "minus itself", s.Minus(s).All())
	checkSpans(t, "meet with itself", s.Meet(s).All(), from(1, 5), from(7, 8))
	checkSpans(t, "union with itself", s.Union(s).All(), from(1, 5), from(7, 8))
	var none span.Set
	checkSpans(t, "none and s", none.Union(s).All(), from(1, 5), from(7, 8))
	checkSpans(t, "s and none", s.Union(none).All(), from(1, 5), from(7, 8))
	checkSpans(t, "s meets none", s.Meet(none).All())
	checkSpans(t, "none meets s", none.Meet(s).All())
	checkSpans(t, "s without none", s.Minus(none).All(), from(1, 5), from(7, 8))
	checkSpans(t, "none without s", none.Minus(s).All())
	checkSpans(t, "none and none", none.Union(none).All())
}

func TestP5_1AtTheEnds(t *testing.T) {
	all := span.Of(from(lowest, highest))
	first, last := span.Of(from(lowest, lowest+1)), span.Of(from(highest-1, highest))
	checkSpans(t, "without the first", all.Minus(first).All(), from(lowest+1, highest))
	checkSpans(t, "without the last", all.Minus(last).All(), from(lowest, highest-1))
	checkSpans(t, "without 0", all.Minus(span.Of(from(0, 1))).All(), from(lowest, 0), from(1, highest))
	checkSpans(t, "the first and the last", first.Union(last).All(), from(lowest, lowest+1), from(highest-1, highest))
	checkSpans(t, "back to all", all.Minus(first).Minus(last).Union(last).Union(first).All(), from(lowest, highest))
	checkSpans(t, "the last of all", all.Meet(last).All(), from(highest-1, highest))
	checkSpans(t, "nothing of all", all.Minus(all).All())
	checkSpans(t, "no day of both", first.Meet(last).All())
}

func TestP5_1DayByDay(t *testing.T) {
	r := rand.New(rand.NewSource(5))
	for range 20000 {
		l, m := someSpans(r), someSpans(r)
		s, u := span.Of(l...), span.Of(m...)
		for _, x := range []struct {
			what  string
			got   span.Set
			asked func(d api.Day) bool
		}{
			{"of", s, func(d api.Day) bool { return has(l, d) }},
			{"union", s.Union(u), func(d api.Day) bool { return has(l, d) || has(m, d) }},
			{"meet", s.Meet(u), func(d api.Day) bool { return has(l, d) && has(m, d) }},
			{"minus", s.Minus(u), func(d api.Day) bool { return has(l, d) && !has(m, d) }},
		} {
			checkSpans(t, fmt.Sprint(x.what, l, m), x.got.All(), byDays(x.asked)...)
		}
	}
}

func TestP5_2Has(t *testing.T) {
	s := span.Of(from(1, 5), from(7, 8), from(-9, -4))
	for d, wanted := range map[api.Day]bool{
		-10: false, -9: true, -5: true, -4: false, 0: false, 1: true, 4: true, 5: false, 6: false, 7: true, 8: false, lowest: false, highest: false,
	} {
		check(t, fmt.Sprint("Has ", d), s.Has(d), wanted)
	}
	for _, d := range edges() {
		check(t, fmt.Sprint("none has ", d), span.Set{}.Has(d), false)
		check(t, fmt.Sprint("all has ", d), span.Of(from(lowest, highest)).Has(d), d != highest)
		if d != highest {
			one := span.Of(from(d, d+1))
			check(t, fmt.Sprint("one has ", d), one.Has(d), true)
			check(t, fmt.Sprint("one has ", d+1), one.Has(d+1), false)
		}
	}
}

func TestP5_2HasDayByDay(t *testing.T) {
	r := rand.New(rand.NewSource(52))
	for range 3000 {
		l := someSpans(r)
		s := span.Of(l...)
		days := 0
		for d := api.Day(-20); d < 20; d++ {
			check(t, fmt.Sprint(l, " has ", d), s.Has(d), has(l, d))
			if has(l, d) {
				days++
			}
		}
		check(t, fmt.Sprint("days of ", l), s.Days(), days)
	}
}

func TestP5_2Days(t *testing.T) {
	for i, x := range []struct {
		l      []api.Span
		wanted int
	}{
		{nil, 0},
		{[]api.Span{from(5, 5), from(5, 2)}, 0},
		{[]api.Span{from(1, 3), from(3, 5), from(9, 9), from(7, 8)}, 5},
		{[]api.Span{from(1, 9), from(2, 3), from(1, 9)}, 8},
		{[]api.Span{from(-3, 3)}, 6},
		{[]api.Span{from(0, most-1)}, most - 1},
		{[]api.Span{from(0, most)}, most},
		{[]api.Span{from(0, most+1)}, most},
		{[]api.Span{from(-1, most)}, most},
		{[]api.Span{from(0, most-1), from(most, most+1)}, most},
		{[]api.Span{from(0, most-2), from(most, most+1)}, most - 1},
		{[]api.Span{from(0, most-1), from(most, most+2)}, most},
		{[]api.Span{from(-2, -1), from(0, most)}, most},
		{[]api.Span{from(lowest, -most-1), from(-most, -1), from(0, most), from(most+1, highest)}, most},
		{[]api.Span{from(lowest, -1), from(0, highest)}, most}, // 2^64 - 2 days
		{[]api.Span{from(lowest, 0), from(1, 2)}, most},        // 2^63 and one
		{[]api.Span{from(lowest, -most), from(-most+1, -1)}, most},
		{[]api.Span{from(lowest, highest)}, most},
	} {
		check(t, fmt.Sprint("days of ", i), span.Of(x.l...).Days(), x.wanted)
	}
}

func TestP5_2All(t *testing.T) {
	check(t, "spans of none", len(span.Set{}.All()), 0)
	check(t, "spans of no span", len(span.Of().All()), 0)
	checkSpans(t, "in order", span.Of(from(20, 30), from(-5, -4), from(7, 9)).All(), from(-5, -4), from(7, 9), from(20, 30))
}

func TestP5_3Length(t *testing.T) {
	for s, wanted := range map[api.Span]int{
		{}: 0, from(3, 9): 6, from(9, 3): 0, from(4, 4): 0, from(4, 5): 1, from(-2, 3): 5,
		from(0, most): most, from(0, most-1): most - 1, from(1, most): most - 1, from(0, most+1): most, from(-1, most): most,
		from(-most, 0): most, from(-most, most): most, from(lowest, 0): most, from(0, highest): most, from(lowest, highest): most,
		from(lowest, -1): most, from(highest, lowest): 0, from(1, lowest): 0, from(highest, -1): 0, from(lowest, lowest): 0,
		from(lowest, lowest+1): 1, from(highest-1, highest): 1, from(highest, highest): 0,
	} {
		check(t, fmt.Sprint("length of ", s), span.Length(s), wanted)
	}
}

func TestP5_3LengthByWords(t *testing.T) {
	for _, a := range edges() {
		for _, b := range edges() {
			days := new(big.Int).Sub(big.NewInt(int64(b)), big.NewInt(int64(a)))
			wanted := most
			if days.Sign() < 0 {
				wanted = 0
			} else if days.Cmp(big.NewInt(most)) < 0 {
				wanted = int(days.Int64())
			}
			check(t, fmt.Sprint("length of ", a, b), span.Length(from(a, b)), wanted)
			check(t, fmt.Sprint("days of ", a, b), span.Of(from(a, b)).Days(), wanted)
		}
	}
}

func TestP5_3Cross(t *testing.T) {
	for _, x := range []struct{ a, b, wanted api.Span }{
		{from(1, 5), from(3, 9), from(3, 5)},
		{from(1, 9), from(3, 5), from(3, 5)},
		{from(1, 5), from(1, 5), from(1, 5)},
		{from(1, 5), from(4, 5), from(4, 5)},
		{from(1, 5), from(5, 9), api.Span{}},
		{from(1, 5), from(6, 9), api.Span{}},
		{from(1, 5), from(4, 2), api.Span{}},
		{from(1, 9), from(5, 5), api.Span{}},
		{from(9, 1), from(1, 9), api.Span{}},
		{from(9, 1), from(9, 1), api.Span{}},
		{from(-9, -1), from(-5, 5), from(-5, -1)},
		{from(lowest, highest), from(3, 5), from(3, 5)},
		{from(lowest, highest), from(lowest, highest), from(lowest, highest)},
		{from(lowest, 0), from(0, highest), api.Span{}},
		{from(lowest, 1), from(0, highest), from(0, 1)},
		{from(highest, lowest), from(lowest, highest), api.Span{}},
	} {
		check(t, fmt.Sprint("cross of ", x.a, x.b), span.Cross(x.a, x.b), x.wanted)
		check(t, fmt.Sprint("cross of ", x.b, x.a), span.Cross(x.b, x.a), x.wanted)
	}
	for a := range api.Day(6 * 6 * 6 * 6) {
		s, u := from(a%6, a/6%6), from(a/36%6, a/216)
		crossed := span.Cross(s, u)
		checkSpans(t, fmt.Sprint("set of the cross of ", s, u), span.Of(crossed).All(), span.Of(s).Meet(span.Of(u)).All()...)
		if crossed.To <= crossed.From && crossed != (api.Span{}) {
			t.Errorf("cross of %v and %v: %v", s, u, crossed)
		}
	}
}

func TestP5_3Pieces(t *testing.T) {
	for i, x := range []struct {
		s      api.Span
		cuts   []api.Day
		wanted []api.Span
	}{
		{from(1, 5), nil, []api.Span{from(1, 5)}},
		{from(1, 5), []api.Day{3, 1, 9}, []api.Span{from(1, 3), from(3, 5)}},
		{from(1, 5), []api.Day{1}, []api.Span{from(1, 5)}},
		{from(1, 5), []api.Day{5}, []api.Span{from(1, 5)}},
		{from(1, 5), []api.Day{0, 6, -7, lowest, highest}, []api.Span{from(1, 5)}},
		{from(1, 5), []api.Day{2}, []api.Span{from(1, 2), from(2, 5)}},
		{from(1, 5), []api.Day{4}, []api.Span{from(1, 4), from(4, 5)}},
		{from(1, 5), []api.Day{3, 3, 3}, []api.Span{from(1, 3), from(3, 5)}},
		{from(1, 5), []api.Day{4, 2, 4, 3, 2}, []api.Span{from(1, 2), from(2, 3), from(3, 4), from(4, 5)}},
		{from(1, 2), []api.Day{1, 2}, []api.Span{from(1, 2)}},
		{from(5, 5), []api.Day{5}, nil},
		{from(5, 5), nil, nil},
		{from(5, 1), []api.Day{3, 5, 1}, nil},
		{from(highest, lowest), []api.Day{0}, nil},
		{from(lowest, highest), []api.Day{lowest, highest}, []api.Span{from(lowest, highest)}},
		{from(lowest, highest), []api.Day{highest - 1, 0, lowest + 1}, []api.Span{from(lowest, lowest+1), from(lowest+1, 0), from(0, highest-1), from(highest-1, highest)}},
	} {
		checkSpans(t, fmt.Sprint("pieces ", i), span.Pieces(x.s, x.cuts...), x.wanted...)
	}
}

func TestP5_4SameDays(t *testing.T) {
	r := rand.New(rand.NewSource(54))
	for range 5000 {
		l := someSpans(r)
		wanted := span.Of(l...).All()
		r.Shuffle(len(l), func(i, j int) { l[i], l[j] = l[j], l[i] })
		checkSpans(t, fmt.Sprint("shuffled ", l), span.Of(l...).All(), wanted...)
		var oneByOne span.Set
		for _, s := range l {
			oneByOne = oneByOne.Union(span.Of(s))
		}
		checkSpans(t, fmt.Sprint("one by one ", l), oneByOne.All(), wanted...)
		checkSpans(t, fmt.Sprint("read again ", l), span.Of(wanted...).All(), wanted...)
		s, u := span.Of(l...), span.Of(someSpans(r)...)
		checkSpans(t, "what is parted is put together", s.Minus(u).Union(s.Meet(u)).All(), wanted...)
		check(t, "days of both parts", s.Minus(u).Days()+s.Meet(u).Days(), s.Days())
		checkSpans(t, "twice less", s.Minus(s.Minus(u)).All(), s.Meet(u).All()...)
	}
}

func TestP5_4PiecesAreTheSpan(t *testing.T) {
	r := rand.New(rand.NewSource(45))
	for range 5000 {
		s := from(api.Day(r.Intn(20)-10), api.Day(r.Intn(20)-10))
		cuts := make([]api.Day, r.Intn(8))
		for i := range cuts {
			cuts[i] = api.Day(r.Intn(26) - 13)
		}
		pieces := span.Pieces(s, cuts...)
		days := 0
		at := s.From
		for _, p := range pieces {
			if p.From != at || p.To <= p.From || at != s.From && !slices.Contains(cuts, at) {
				t.Errorf("pieces of %v at %v: %v", s, cuts, pieces)
			}
			at = p.To
			days += span.Length(p)
			for _, cut := range cuts {
				if p.From < cut && cut < p.To {
					t.Errorf("pieces of %v at %v: %v", s, cuts, pieces)
				}
			}
		}
		check(t, fmt.Sprint("days of the pieces of ", s), days, span.Length(s))
		checkSpans(t, fmt.Sprint("days of the pieces of ", s), span.Of(pieces...).All(), span.Of(s).All()...)
	}
}

// TestMemory: what is handed in stays as it is, its spare room too; no answer shares memory with another thing; a set stays as it was.
func TestMemory(t *testing.T) {
	room := []api.Span{from(7, 8), from(1, 3), from(2, 5), from(50, 60)}
	cuts := []api.Day{5, 3, 5, 99}
	roomBefore, cutsBefore := slices.Clone(room), slices.Clone(cuts)
	s := span.Of(room[:3]...)
	pieces := span.Pieces(from(1, 9), cuts[:3]...)
	if !slices.Equal(room, roomBefore) || !slices.Equal(cuts, cutsBefore) {
		t.Error("what was handed in was changed", room, cuts)
	}
	again := span.Pieces(from(1, 9), cuts[:3]...)
	clear(pieces)
	checkSpans(t, "other pieces", again, from(1, 3), from(3, 5), from(5, 9))
	clear(room)
	checkSpans(t, "a set whose spans' list was cleared", s.All(), from(1, 5), from(7, 8))
	l := s.All()
	l = append(l[:1], from(100, 200))
	l[0] = from(0, 1000)
	checkSpans(t, "a set whose answer was altered", s.All(), from(1, 5), from(7, 8))
	for range 3 {
		s.Union(span.Of(from(5, 7))).All()[0].To = 4
		s.Minus(span.Of(from(2, 3)))
		s.Meet(span.Of(from(2, 3)))
		s.Union(span.Set{}).All()[0].From = -5
		s.Minus(span.Set{}).All()[0].From = -5
	}
	checkSpans(t, "a set that others were made of", s.All(), from(1, 5), from(7, 8))
}

// TestP1NoPanic hands each call what is farthest out.
func TestP1NoPanic(t *testing.T) {
	for _, a := range edges() {
		for _, b := range edges() {
			s := span.Of(from(a, b))
			s.Has(a)
			s.Days()
			for _, c := range edges() {
				span.Pieces(from(a, b), c, a, b)
				for _, d := range edges() {
					u := span.Of(from(c, d), from(a, d))
					span.Cross(from(a, b), from(c, d))
					for _, set := range []span.Set{u, s.Union(u), s.Meet(u), s.Minus(u), u.Minus(s)} {
						checkForm(t, set)
						if n := set.Days(); n < 0 || n > most {
							t.Errorf("%v: %d days", set.All(), n)
						}
					}
				}
			}
		}
	}
}
