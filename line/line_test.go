package line_test

import (
	"fmt"
	"math"
	"math/rand"
	"slices"
	"testing"

	"wagebook/api"
	"wagebook/fact"
	"wagebook/line"
	"wagebook/store"
)

const (
	lowest  = api.Day(math.MinInt)
	highest = api.Day(math.MaxInt)
)

// check fails the test, if something is another thing than was wanted.
func check[T comparable](t *testing.T, what string, got, wanted T) {
	t.Helper()
	if got != wanted {
		t.Errorf("%s: %v, wanted %v", what, got, wanted)
	}
}

// checkList fails the test, if a list's elements are others than were wanted; without elements it may be nil or not.
func checkList[T comparable](t *testing.T, what string, got, wanted []T) {
	t.Helper()
	if !slices.Equal(got, wanted) {
		t.Errorf("%s: %.500s, wanted %.500s", what, fmt.Sprint(got), fmt.Sprint(wanted))
	}
}

// from is the span of the days from a on, up to b.
func from(a, b api.Day) api.Span { return api.Span{From: a, To: b} }

// known is a fact with its number.
func known(n int, a, b api.Day, num int64, text string) store.Known {
	return store.Known{N: n, Fact: fact.Fact{Kind: fact.Rule, From: a, To: b, Code: "x", Num: num, Text: text}}
}

// value is that of known.
func value(n int, num int64, text string) line.Value {
	return line.Value{N: n, Num: num, Text: text}
}

// holder is the place in the list of the fact that is in force on a day, by the chapter's words; -1, if none is.
func holder(l []store.Known, d api.Day) int {
	best := -1
	for i, k := range l {
		covers := k.Fact.From <= d && (k.Fact.To == 0 || k.Fact.To > d)
		if covers && (best < 0 || k.N > l[best].N) {
			best = i
		}
	}
	return best
}

// valueAt is the value on a day, by the words.
func valueAt(l []store.Known, d api.Day) (line.Value, bool) {
	i := holder(l, d)
	if i < 0 {
		return line.Value{}, false
	}
	return value(l[i].N, l[i].Fact.Num, l[i].Fact.Text), true
}

// piecesOver is the pieces of a span, found day by day.
func piecesOver(l []store.Known, s api.Span) []line.Piece {
	var pieces []line.Piece
	for d := s.From; d < s.To; d++ {
		v, ok := valueAt(l, d)
		if !ok {
			continue
		}
		if d == s.From || holder(l, d) != holder(l, d-1) {
			pieces = append(pieces, line.Piece{Span: from(d, d), Value: v})
		}
		pieces[len(pieces)-1].Span.To = d + 1
	}
	return pieces
}

// numsOf is each day's Num.
func numsOf(l []store.Known, s api.Span) []int64 {
	var nums []int64
	for d := s.From; d < s.To; d++ {
		v, _ := valueAt(l, d)
		nums = append(nums, v.Num)
	}
	return nums
}

// changesOf is the days on which it changes.
func changesOf(l []store.Known, s api.Span) []api.Day {
	var days []api.Day
	for d := s.From; d < s.To; d++ {
		if d > s.From && holder(l, d) != holder(l, d-1) {
			days = append(days, d)
		}
	}
	return days
}

// someKnowns are facts of a few days near 0, empty and open ones among them, of values that may be alike; with numbers from least to most.
func someKnowns(r *rand.Rand, least, most int) []store.Known {
	l := make([]store.Known, r.Intn(8))
	for i := range l {
		l[i] = known(least+r.Intn(most-least+1), api.Day(r.Intn(24)-12), api.Day(r.Intn(24)-12), int64(r.Intn(3)), []string{"", "a"}[r.Intn(2)])
		if r.Intn(4) == 0 {
			l[i].Fact.To = 0
		}
	}
	return l
}

// checkLine holds a line against the words, on days near 0.
func checkLine(t *testing.T, x line.Line, l []store.Known, s api.Span) {
	t.Helper()
	what := fmt.Sprint(" of ", l, " over ", s)
	for d := api.Day(-15); d < 15; d++ {
		v, ok := x.At(d)
		wanted, isSome := valueAt(l, d)
		check(t, fmt.Sprint("At ", d, what), v, wanted)
		check(t, fmt.Sprint("is some at ", d, what), ok, isSome)
	}
	checkList(t, "Over"+what, x.Over(s), piecesOver(l, s))
	checkList(t, "Nums"+what, x.Nums(s), numsOf(l, s))
	checkList(t, "Changes"+what, x.Changes(s), changesOf(l, s))
}

func TestP10_1At(t *testing.T) {
	l := line.Of(known(1, 0, 0, 100, "a"), known(2, 10, 20, 200, "b"), known(7, 30, 31, -5, ""), known(3, 15, 16, 300, "c"))
	for d, wanted := range map[api.Day]line.Value{
		0: value(1, 100, "a"), 9: value(1, 100, "a"), 10: value(2, 200, "b"), 14: value(2, 200, "b"), 15: value(3, 300, "c"), 16: value(2, 200, "b"),
		19: value(2, 200, "b"), 20: value(1, 100, "a"), 29: value(1, 100, "a"), 30: value(7, -5, ""), 31: value(1, 100, "a"), 1 << 60: value(1, 100, "a"), highest: value(1, 100, "a"),
	} {
		v, ok := l.At(d)
		check(t, fmt.Sprint("At ", d), v, wanted)
		check(t, fmt.Sprint("is some at ", d), ok, true)
	}
	for _, d := range []api.Day{-1, -100, lowest} {
		v, ok := l.At(d)
		check(t, fmt.Sprint("At ", d), v, line.Value{})
		check(t, fmt.Sprint("is some at ", d), ok, false)
	}
}

func TestP10_1Zero(t *testing.T) {
	for _, l := range []line.Line{{}, line.Of(), line.Of(known(1, 5, 5, 1, "a"), known(2, 5, 3, 1, "a"), known(3, -5, -6, 1, "a"), known(4, highest, lowest, 1, "a"))} {
		for _, d := range []api.Day{lowest, -6, -1, 0, 4, 5, 6, highest} {
			v, ok := l.At(d)
			check(t, "At", v, line.Value{})
			check(t, "is some", ok, false)
		}
		check(t, "Over", len(l.Over(from(lowest, highest))), 0)
		check(t, "Changes", len(l.Changes(from(lowest, highest))), 0)
		checkList(t, "Nums", l.Nums(from(-1, 2)), []int64{0, 0, 0})
	}
}

// TestP10_1Number: the number alone says which fact goes ahead; of one number the place in the list.
func TestP10_1Number(t *testing.T) {
	for i, x := range []struct {
		l      []store.Known
		wanted line.Value
	}{
		{[]store.Known{known(1, 0, 0, 1, ""), known(2, 0, 0, 2, "")}, value(2, 2, "")},
		{[]store.Known{known(2, 0, 0, 2, ""), known(1, 0, 0, 1, "")}, value(2, 2, "")},
		{[]store.Known{known(2, 0, 9, 1, ""), known(2, 0, 0, 2, "")}, value(2, 1, "")},
		{[]store.Known{known(2, 0, 0, 2, ""), known(2, 0, 9, 1, "")}, value(2, 2, "")},
		{[]store.Known{known(2, 6, 0, 2, ""), known(2, 0, 9, 1, ""), known(2, 3, 9, 7, "")}, value(2, 1, "")},
		{[]store.Known{known(-2, 0, 0, 2, ""), known(math.MinInt, 0, 0, 9, ""), known(-3, 4, 6, 9, "")}, value(-2, 2, "")},
		{[]store.Known{known(0, 0, 0, 2, ""), known(math.MaxInt, 0, 0, 9, "z"), known(math.MinInt, 4, 6, 9, "")}, value(math.MaxInt, 9, "z")},
	} {
		v, ok := line.Of(x.l...).At(5)
		check(t, fmt.Sprint("At of ", i), v, x.wanted)
		check(t, fmt.Sprint("is some of ", i), ok, true)
	}
}

// TestP10_1OneNumber: of very many facts with one number it is the first one in the list, too.
func TestP10_1OneNumber(t *testing.T) {
	r := rand.New(rand.NewSource(101))
	var l []store.Known
	for i := range 500 {
		l = append(l, known(1+i%2, api.Day(r.Intn(500)-250), api.Day(r.Intn(500)-250), int64(i), ""))
	}
	s := from(-260, 260)
	x := line.Of(l...)
	checkList(t, "Over", x.Over(s), piecesOver(l, s))
	checkList(t, "Nums", x.Nums(s), numsOf(l, s))
	checkList(t, "Changes", x.Changes(s), changesOf(l, s))
}

// TestP10_1AnyKind: a fact is one of a line, whatever it is; also one that isn't right, or has no days as layer 8 has them.
func TestP10_1AnyKind(t *testing.T) {
	for _, kind := range []int{0, fact.Employ, fact.Sheet, fact.Holiday, fact.Grant, fact.Cancel, 19, -1} {
		k := store.Known{N: 3, Fact: fact.Fact{ID: 9, Person: 7, Kind: kind, From: -3, Code: "A B", Num: 5, Text: "\n"}}
		other := store.Known{N: 4, Fact: fact.Fact{Person: 8, Kind: kind + 1, From: 10, To: 12, Num: 6}}
		checkList(t, fmt.Sprint("Over of kind ", kind), line.Of(k, other).Over(from(-5, 20)), []line.Piece{
			{Span: from(-3, 10), Value: value(3, 5, "\n")}, {Span: from(10, 12), Value: value(4, 6, "")}, {Span: from(12, 20), Value: value(3, 5, "\n")},
		})
	}
}

func TestP10_2Over(t *testing.T) {
	l := line.Of(known(2, 10, 20, 200, ""), known(1, 0, 0, 100, ""))
	a, b := value(1, 100, ""), value(2, 200, "")
	for s, wanted := range map[api.Span][]line.Piece{
		from(5, 25):              {{Span: from(5, 10), Value: a}, {Span: from(10, 20), Value: b}, {Span: from(20, 25), Value: a}},
		from(-5, 5):              {{Span: from(0, 5), Value: a}},
		from(-5, 0):              nil,
		from(-5, 1):              {{Span: from(0, 1), Value: a}},
		from(12, 13):             {{Span: from(12, 13), Value: b}},
		from(10, 20):             {{Span: from(10, 20), Value: b}},
		from(9, 11):              {{Span: from(9, 10), Value: a}, {Span: from(10, 11), Value: b}},
		from(19, 21):             {{Span: from(19, 20), Value: b}, {Span: from(20, 21), Value: a}},
		from(20, 21):             {{Span: from(20, 21), Value: a}},
		from(15, 15):             nil,
		from(15, 5):              nil,
		from(25, -5):             nil,
		from(0, 0):               nil,
		{}:                       nil,
		from(highest, 0):         nil,
		from(lowest, lowest):     nil,
		from(lowest, highest):    {{Span: from(0, 10), Value: a}, {Span: from(10, 20), Value: b}, {Span: from(20, highest), Value: a}},
		from(highest-1, highest): {{Span: from(highest-1, highest), Value: a}},
	} {
		checkList(t, fmt.Sprint("Over ", s), l.Over(s), wanted)
	}
}

// TestP10_2AlikeValues: two facts are two pieces, though they have one value, or even one number.
func TestP10_2AlikeValues(t *testing.T) {
	s := from(-9, 30)
	for i, x := range []struct{ l []store.Known }{
		{[]store.Known{known(1, 0, 10, 5, "a"), known(2, 10, 20, 5, "a")}},
		{[]store.Known{known(1, 0, 10, 5, "a"), known(1, 10, 20, 5, "a")}},
		{[]store.Known{known(1, 10, 20, 5, "a"), known(1, 0, 10, 5, "a")}},
	} {
		second := x.l[max(0, 1-i)].N
		checkList(t, fmt.Sprint("Over of ", i), line.Of(x.l...).Over(s), []line.Piece{{Span: from(0, 10), Value: value(1, 5, "a")}, {Span: from(10, 20), Value: value(second, 5, "a")}})
		checkList(t, fmt.Sprint("Changes of ", i), line.Of(x.l...).Changes(s), []api.Day{0, 10, 20})
	}
	covered := line.Of(known(1, 0, 20, 5, "a"), known(1, 5, 10, 5, "a"), known(1, 0, 20, 5, "a"), known(0, 3, 9, 7, "b"))
	checkList(t, "Over of one that covers all", covered.Over(s), []line.Piece{{Span: from(0, 20), Value: value(1, 5, "a")}})
	checkList(t, "Changes of one that covers all", covered.Changes(s), []api.Day{0, 20})
	within := line.Of(known(1, 5, 10, 5, "a"), known(1, 0, 20, 5, "a"))
	checkList(t, "Changes of one ahead within", within.Changes(s), []api.Day{0, 5, 10, 20})
}

func TestP10_2AroundZero(t *testing.T) {
	s := from(-20, 20)
	for to, wanted := range map[api.Day]api.Span{-5: from(-10, -5), -1: from(-10, -1), 0: from(-10, 20), 1: from(-10, 1)} {
		checkList(t, fmt.Sprint("Over to ", to), line.Of(known(1, -10, to, 5, "")).Over(s), []line.Piece{{Span: wanted, Value: value(1, 5, "")}})
	}
	checkList(t, "Over from 0", line.Of(known(1, 0, 0, 5, "")).Over(s), []line.Piece{{Span: from(0, 20), Value: value(1, 5, "")}})
	check(t, "Over of what ends ahead", len(line.Of(known(1, 5, -5, 5, "")).Over(s)), 0)
}

func TestP10_2AtTheEnds(t *testing.T) {
	all := from(lowest, highest)
	open, late := known(1, lowest, 0, 1, ""), known(2, highest-1, highest, 2, "")
	checkList(t, "Over", line.Of(open, late).Over(all), []line.Piece{{Span: from(lowest, highest-1), Value: value(1, 1, "")}, {Span: from(highest-1, highest), Value: value(2, 2, "")}})
	checkList(t, "Changes", line.Of(open, late).Changes(all), []api.Day{highest - 1})
	early, last := known(2, lowest, lowest+1, 2, ""), known(3, highest, 0, 3, "")
	checkList(t, "Over of early", line.Of(early, open, last).Over(all), []line.Piece{{Span: from(lowest, lowest+1), Value: value(2, 2, "")}, {Span: from(lowest+1, highest), Value: value(1, 1, "")}})
	v, ok := line.Of(open, last).At(highest)
	check(t, "At the last day", v, value(3, 3, ""))
	check(t, "is some", ok, true)
	v, ok = line.Of(late).At(highest)
	check(t, "At the last day, which isn't covered", v, line.Value{})
	check(t, "is some", ok, false)
	v, ok = line.Of(early).At(lowest)
	check(t, "At the first day", v, value(2, 2, ""))
	check(t, "is some", ok, true)
	checkList(t, "Nums at the first days", line.Of(early, open).Nums(from(lowest, lowest+3)), []int64{2, 1, 1})
	checkList(t, "Nums at the last days", line.Of(open, late).Nums(from(highest-3, highest)), []int64{1, 1, 2})
}

func TestP10_3Nums(t *testing.T) {
	l := line.Of(known(1, 0, 20, 100, ""), known(2, 10, 15, -7, ""), known(3, 30, 0, 9, ""))
	checkList(t, "Nums", l.Nums(from(18, 32)), []int64{100, 100, 0, 0, 0, 0, 0, 0, 0, 0, 0, 0, 9, 9})
	checkList(t, "Nums of a day", l.Nums(from(14, 15)), []int64{-7})
	checkList(t, "Nums ahead", l.Nums(from(-3, 1)), []int64{0, 0, 0, 100})
	for _, s := range []api.Span{{}, from(5, 5), from(9, 5), from(highest, lowest), from(0, 4097), from(-4096, 1), from(lowest, highest), from(0, highest), from(lowest, 0), from(-1, highest)} {
		check(t, fmt.Sprint("Nums of ", s), len(l.Nums(s)), 0)
	}
	for _, s := range []api.Span{from(0, 4096), from(-4096, 0), from(-100, 3996), from(-4095, 0)} {
		checkList(t, fmt.Sprint("Nums of ", s), l.Nums(s), numsOf([]store.Known{known(1, 0, 20, 100, ""), known(2, 10, 15, -7, ""), known(3, 30, 0, 9, "")}, s))
	}
}

func TestP10_3Changes(t *testing.T) {
	l := line.Of(known(3, 30, 0, 7, ""), known(1, 0, 20, 100, ""), known(2, 10, 15, 100, ""))
	for s, wanted := range map[api.Span][]api.Day{
		from(-5, 40): {0, 10, 15, 20, 30}, from(0, 30): {10, 15, 20}, from(-1, 31): {0, 10, 15, 20, 30}, from(9, 10): nil, from(9, 11): {10}, from(10, 11): nil,
		from(10, 15): nil, from(10, 16): {15}, from(16, 10): nil, from(20, 30): nil, from(19, 21): {20}, from(25, 1000): {30}, from(31, 1000): nil, {}: nil,
		from(lowest, highest): {0, 10, 15, 20, 30}, from(highest, lowest): nil, from(lowest, 0): nil, from(lowest, 1): {0},
	} {
		checkList(t, fmt.Sprint("Changes ", s), l.Changes(s), wanted)
	}
}

func TestP10ByWords(t *testing.T) {
	r := rand.New(rand.NewSource(10))
	for range 20000 {
		l := someKnowns(r, -2, 4)
		checkLine(t, line.Of(l...), l, from(api.Day(r.Intn(30)-15), api.Day(r.Intn(30)-15)))
	}
}

// TestP10_4AtIsOver: At tells what Over tells.
func TestP10_4AtIsOver(t *testing.T) {
	r := rand.New(rand.NewSource(104))
	for range 3000 {
		l := line.Of(someKnowns(r, 1, 9)...)
		s := from(-14, 14)
		pieces, changes, nums := l.Over(s), l.Changes(s), l.Nums(s)
		for d := s.From; d < s.To; d++ {
			v, ok := l.At(d)
			i := slices.IndexFunc(pieces, func(p line.Piece) bool { return p.Span.From <= d && d < p.Span.To })
			check(t, "is in a piece", i >= 0, ok)
			if ok && i >= 0 {
				check(t, "value of the piece", pieces[i].Value, v)
			}
			check(t, "Num", nums[d-s.From], v.Num)
			before, was := l.At(d - 1)
			if d > s.From && (ok != was || v.N != before.N) && !slices.Contains(changes, d) {
				t.Errorf("changes %v without %d", changes, d)
			}
		}
	}
}

// TestP10_4AnyOrder: facts in whatever order have one line, if no two have one number.
func TestP10_4AnyOrder(t *testing.T) {
	r := rand.New(rand.NewSource(1040))
	s := from(-14, 14)
	for range 2000 {
		l := someKnowns(r, 1, 1)
		for i := range l {
			l[i].N = i + 1
		}
		x := line.Of(l...)
		r.Shuffle(len(l), func(i, j int) { l[i], l[j] = l[j], l[i] })
		y := line.Of(l...)
		checkList(t, "Over", y.Over(s), x.Over(s))
		checkList(t, "Changes", y.Changes(s), x.Changes(s))
		checkList(t, "Nums", y.Nums(s), x.Nums(s))
	}
}

// TestP10_4Greater: a fact with a greater number than all changes just the days that it covers.
func TestP10_4Greater(t *testing.T) {
	r := rand.New(rand.NewSource(10400))
	for range 3000 {
		l := someKnowns(r, 1, 9)
		more := known(10, api.Day(r.Intn(20)-10), api.Day(r.Intn(20)-10), 77, "more")
		before, behind := line.Of(l...), line.Of(append(l, more)...)
		for d := api.Day(-14); d < 14; d++ {
			wanted, some := before.At(d)
			if more.Fact.From <= d && (more.Fact.To == 0 || d < more.Fact.To) {
				wanted, some = value(10, 77, "more"), true
			}
			v, ok := behind.At(d)
			check(t, "At", v, wanted)
			check(t, "is some", ok, some)
		}
	}
}

// TestP10OfAStore takes a line of what a view tells.
func TestP10OfAStore(t *testing.T) {
	var facts []fact.Fact
	for _, s := range []string{"rule 0 0 2024-01-01 - x 1", "rule 0 0 2024-01-11 2024-01-21 x 2", "rule 0 0 2024-01-16 - x 3", "cancel 0 0 1970-01-01 - - 3", "rule 0 0 2024-01-01 2024-01-02 x 4"} {
		f, e := fact.Parse(s)
		check(t, "error of "+s, e, api.OK)
		facts = append(facts, f)
	}
	s, _, e := store.Store{}.Import(facts...)
	check(t, "error", e, api.OK)
	days := from(19723, 19754)
	check(t, "behind three", len(line.Of(s.At(3).Facts(0, fact.Rule)...).Over(days)), 3)
	checkList(t, "behind all", line.Of(s.At(5).Facts(0, fact.Rule)...).Over(days), []line.Piece{
		{Span: from(19723, 19724), Value: value(5, 4, "")}, {Span: from(19724, 19733), Value: value(1, 1, "")}, {Span: from(19733, 19743), Value: value(2, 2, "")}, {Span: from(19743, 19754), Value: value(1, 1, "")},
	})
}

// TestManyFacts is a line of very many facts: each day of the many has another one's value.
func TestManyFacts(t *testing.T) {
	const n = 20000
	var l []store.Known
	for i := range n {
		l = append(l, known(i+1, api.Day(i), api.Day(2*n-i), int64(i), ""))
	}
	pieces := line.Of(l...).Over(from(0, 2*n))
	check(t, "pieces", len(pieces), 2*n-1)
	check(t, "the middle one", pieces[n-1], line.Piece{Span: from(n-1, n+1), Value: value(n, n-1, "")})
	check(t, "the last one", pieces[2*n-2], line.Piece{Span: from(2*n-1, 2*n), Value: value(1, 0, "")})
}

// TestMemory: what is handed in stays as it is, its spare room too; what is done to it, or to an answer, changes no line.
func TestMemory(t *testing.T) {
	room := []store.Known{known(1, 0, 20, 1, "a"), known(3, 5, 0, 3, "c"), known(2, 3, 9, 2, "b"), known(9, -9, 0, 9, "z")}
	before := slices.Clone(room)
	l := line.Of(room[:3]...)
	checkList(t, "what was handed in", room, before)
	clear(room)
	s := from(-10, 10)
	for range 3 {
		checkLine(t, l, before[:3], s)
		clear(l.Over(s))
		clear(l.Nums(s))
		clear(l.Changes(s))
		clear(append(l.Over(s)[:1], line.Piece{Span: from(-10, 10)}))
		clear(append(l.Changes(s)[:1], 9))
	}
}

// TestP1NoPanic hands each call what is farthest out.
func TestP1NoPanic(t *testing.T) {
	edges := []api.Day{lowest, lowest + 1, -1, 0, 1, highest - 1, highest}
	for _, a := range edges {
		for _, b := range edges {
			l := line.Of(known(1, a, b, 1, ""), known(1, b, a, 1, ""), known(math.MinInt, a, 0, 1, ""))
			l.At(a)
			l.At(b)
			for _, c := range edges {
				for _, d := range edges {
					l.Over(from(c, d))
					l.Changes(from(c, d))
					if nums := l.Nums(from(c, d)); len(nums) > 4096 {
						t.Error("Nums", c, d, len(nums))
					}
				}
			}
		}
	}
}
