package store_test

import (
	"fmt"
	"math"
	"math/rand"
	"slices"
	"testing"

	"wagebook/api"
	"wagebook/fact"
	"wagebook/store"
)

func TestP9_2At(t *testing.T) {
	w := words{salary(1, 3, 1), salary(2, 1, 2), cancel(3, 1), salary(4, 2, 4), salary(5, 3, 5), cancel(6, 5)}
	s := told(t, w...)
	for n, wanted := range map[int]int{math.MinInt: 0, -1: 0, 0: 0, 1: 1, 5: 5, 6: 6, 7: 6, 4096: 6, math.MaxInt: 6} {
		check(t, fmt.Sprint("Len at ", n), s.At(n).Len(), wanted)
		checkView(t, s.At(n), w, wanted)
	}
	var none store.View
	check(t, "Len of none", none.Len(), 0)
	check(t, "Persons of none", len(none.Persons()), 0)
	check(t, "Facts of none", len(none.Facts(1, fact.Salary)), 0)
}

func TestP9_2Facts(t *testing.T) {
	w := words{salary(1, 1, 1), salary(0, 2, 2), salary(3, 1, 3), {ID: 4, Person: 1, Kind: fact.Part, From: newYear}, cancel(5, 1), cancel(6, 4), holiday(7), cancel(8, 7), holiday(9)}
	v := told(t, w...).At(9)
	known := func(numbers ...int) []store.Known {
		var l []store.Known
		for _, n := range numbers {
			l = append(l, store.Known{N: n, Fact: w[n-1]})
		}
		return l
	}
	checkList(t, "salaries of 1", v.Facts(1, fact.Salary), known(3))
	checkList(t, "salaries of 2", v.Facts(2, fact.Salary), known(2))
	checkList(t, "salaries of 3", v.Facts(3, fact.Salary), nil)
	checkList(t, "salaries of the firm", v.Facts(0, fact.Salary), nil)
	checkList(t, "parts of 1", v.Facts(1, fact.Part), nil)
	checkList(t, "holidays", v.Facts(0, fact.Holiday), known(9))
	checkList(t, "holidays of 1", v.Facts(1, fact.Holiday), nil)
	checkList(t, "cancels", v.Facts(0, fact.Cancel), known(5, 6, 8))
	checkList(t, "cancels of 1", v.Facts(1, fact.Cancel), nil)
	elder := told(t, w...).At(5)
	checkList(t, "salaries of 1, ahead", elder.Facts(1, fact.Salary), known(3))
	checkList(t, "parts of 1, ahead", elder.Facts(1, fact.Part), known(4))
	checkList(t, "cancels, ahead", elder.Facts(0, fact.Cancel), known(5))
	checkList(t, "salaries of 1 behind three", told(t, w...).At(3).Facts(1, fact.Salary), known(1, 3))
}

func TestP9_2Persons(t *testing.T) {
	s := told(t, holiday(0), salary(0, math.MaxUint32, 1), salary(0, 7, 1), salary(0, 1, 1), salary(0, 7, 2), cancel(0, 4), cancel(0, 3), salary(0, 1<<31, 1), cancel(0, 5), salary(0, 256, 3))
	for n, wanted := range [][]uint32{
		{}, {}, {math.MaxUint32}, {7, math.MaxUint32}, {1, 7, math.MaxUint32}, {1, 7, math.MaxUint32}, {7, math.MaxUint32},
		{7, math.MaxUint32}, {7, 1 << 31, math.MaxUint32}, {1 << 31, math.MaxUint32}, {256, 1 << 31, math.MaxUint32},
	} {
		checkList(t, fmt.Sprint("Persons at ", n), s.At(n).Persons(), wanted)
	}
}

func TestP9_2ManyPersons(t *testing.T) {
	r := rand.New(rand.NewSource(92))
	var w words
	for range 500 {
		w = append(w, salary(0, r.Uint32()|1, 1), salary(0, 1+uint32(r.Intn(99)), 1))
	}
	v := told(t, w...).At(1000)
	for range 5 {
		checkList(t, "Persons", v.Persons(), w.persons(1000))
	}
}

func TestP9_3Changed(t *testing.T) {
	a, b, c := salary(1, 1, 1), salary(0, 2, 2), salary(3, 1, 3)
	s := told(t, a, b, cancel(4, 1), c, cancel(0, 4))
	known := func(n int, f fact.Fact) store.Known { return store.Known{N: n, Fact: f} }
	for _, x := range []struct {
		n, m   int
		wanted []store.Known
	}{
		{0, 0, nil}, {2, 2, nil}, {5, 5, nil},
		{0, 2, []store.Known{known(1, a), known(2, b)}},
		{2, 3, []store.Known{known(1, a)}},
		{2, 4, []store.Known{known(1, a), known(4, c)}},
		{1, 4, []store.Known{known(1, a), known(2, b), known(4, c)}},
		{2, 5, []store.Known{known(1, a)}},
		{0, 5, []store.Known{known(2, b)}},
		{3, 5, nil}, // what was told, and taken back
		{4, 5, []store.Known{known(4, c)}},
	} {
		checkList(t, fmt.Sprint("Changed ", x.n, ", ", x.m), store.Changed(s.At(x.n), s.At(x.m)), x.wanted)
		checkList(t, fmt.Sprint("Changed ", x.m, ", ", x.n), store.Changed(s.At(x.m), s.At(x.n)), x.wanted)
	}
}

// TestP9_3OfTwoStores: one number may be of two facts, or of one fact but for the ID.
func TestP9_3OfTwoStores(t *testing.T) {
	s := told(t, salary(1, 1, 1), salary(2, 1, 2), holiday(3), salary(0, 2, 4))
	u := told(t, salary(1, 1, 1), salary(5, 1, 2), salary(3, 1, 3), cancel(0, 1), salary(6, 9, 9), salary(7, 9, 9))
	a, b := s.At(4), u.At(6)
	known := func(s store.Store, n int) store.Known { return s.All()[n-1] }
	checkList(t, "a, b", store.Changed(a, b), []store.Known{known(s, 1), known(s, 2), known(u, 2), known(s, 3), known(u, 3), known(s, 4), known(u, 5), known(u, 6)})
	checkList(t, "b, a", store.Changed(b, a), []store.Known{known(s, 1), known(u, 2), known(s, 2), known(u, 3), known(s, 3), known(s, 4), known(u, 5), known(u, 6)})
	checkList(t, "of what is alike", store.Changed(s.At(1), u.At(3)), []store.Known{known(u, 2), known(u, 3)})
	checkList(t, "of none", store.Changed(store.View{}, s.At(1)), []store.Known{known(s, 1)})
	moved := told(t, holiday(0), salary(1, 1, 1)) // the same fact with another number is another one
	checkList(t, "of another number", store.Changed(s.At(1), moved.At(2)), []store.Known{known(s, 1), known(moved, 1), known(moved, 2)})
	text := told(t, long(1))
	other := long(1)
	other.Text = other.Text[1:]
	checkList(t, "of another text", store.Changed(text.At(1), told(t, other).At(1)), []store.Known{known(text, 1), {N: 1, Fact: other}})
	checkList(t, "of the same text", store.Changed(text.At(1), told(t, long(1)).At(1)), nil)
}

func TestP9_4Stays(t *testing.T) {
	r := rand.New(rand.NewSource(94))
	for range 60 {
		var s store.Store
		var w words
		var views []store.View // one that was taken behind each fact
		for range 50 {
			f := someFact(r)
			f.ID = 0
			grown, e := s.Add(f)
			if e == api.OK {
				s, w = grown, append(w, f)
				views = append(views, s.At(s.Len()))
			}
		}
		for i, v := range views {
			checkView(t, v, w, i+1)
			checkView(t, s.At(i+1), w, i+1)
			check(t, "what was changed", len(store.Changed(v, s.At(i+1))), 0)
		}
	}
}

func TestP9_4ImportAgain(t *testing.T) {
	r := rand.New(rand.NewSource(49))
	for range 200 {
		var l []fact.Fact
		var s store.Store
		for range 30 {
			f := someFact(r)
			f.ID = uint32(len(l) + 1)
			if grown, _, e := s.Import(f); e == api.OK {
				s, l = grown, append(l, f)
			}
		}
		u, n, e := s.Import(l...)
		check(t, "error", e, api.OK)
		check(t, "passed over", n, len(l))
		checkList(t, "what was imported again", u.All(), s.All())
		slices.Reverse(l)
		u, n, e = s.Import(l...)
		check(t, "error from behind", e, api.OK)
		check(t, "passed over from behind", n, len(l))
		checkList(t, "what was imported from behind", u.All(), s.All())
	}
}

func TestP9_4CancelLeavesNothing(t *testing.T) {
	r := rand.New(rand.NewSource(490))
	for range 300 {
		s, _, e := store.Store{}.Import(salary(0, 1, int64(r.Intn(3))), holiday(0), salary(0, 2, 1))
		check(t, "error", e, api.OK)
		before := s.At(s.Len())
		f := someFact(r)
		f.ID = 0
		grown, e := s.Add(f)
		if e != api.OK || f.Kind == fact.Cancel {
			continue
		}
		back, e := grown.Add(cancel(0, int64(grown.Len())))
		check(t, "error of the Cancel", e, api.OK)
		behind := back.At(back.Len())
		check(t, "what was changed", len(store.Changed(before, behind)), 0)
		checkList(t, "Persons", behind.Persons(), before.Persons())
		for person := range uint32(4) {
			for _, kind := range []int{fact.Salary, fact.Bonus, fact.Holiday} {
				checkList(t, "Facts", behind.Facts(person, kind), before.Facts(person, kind))
			}
		}
	}
}
