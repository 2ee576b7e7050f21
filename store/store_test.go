package store_test

import (
	"fmt"
	"math"
	"math/rand"
	"slices"
	"strings"
	"sync"
	"testing"

	"wagebook/api"
	"wagebook/fact"
	"wagebook/store"
)

// full is a store of as many facts as there may be, which have the IDs from 1 on.
func full(t *testing.T) (store.Store, []fact.Fact) {
	t.Helper()
	var l []fact.Fact
	for i := range uint32(api.MaxFacts) {
		l = append(l, salary(i+1, 1+i%7, int64(i)))
	}
	s, passed, e := store.Store{}.Import(l...)
	check(t, "passed over", passed, 0)
	check(t, "error of so many", e, api.OK)
	return s, l
}

// refused tells that Add has an error, and leaves the store as it was.
func refused(t *testing.T, s store.Store, f fact.Fact, wanted api.Errno) {
	t.Helper()
	before := s.All()
	got, e := s.Add(f)
	check(t, fmt.Sprintf("Add of %.100s", fmt.Sprint(f)), e, wanted)
	checkList(t, "the store beside an error", got.All(), before)
	check(t, "its Len", got.Len(), len(before))
}

func TestP9_1Add(t *testing.T) {
	var s store.Store
	check(t, "Len of nothing", s.Len(), 0)
	check(t, "All of nothing", len(s.All()), 0)
	w := words{salary(7, 3, 6000000), salary(0, 2, 100), salary(0, 2, 100), holiday(8), cancel(9, 2), long(math.MaxUint32), cancel(0, 4), salary(1, math.MaxUint32, 0)}
	for i, f := range w {
		var e api.Errno
		s, e = s.Add(f)
		check(t, fmt.Sprint("error of Add ", i), e, api.OK)
		checkStore(t, s, w[:i+1])
	}
}

func TestP9_1AddOfEachKind(t *testing.T) {
	var s store.Store
	var w words
	for _, line := range []string{
		"employ 0 1 2024-01-01 - - 1", "salary 0 1 2024-01-01 - - 6000000", "part 0 1 2024-01-01 - - 500000", "hours 0 1 2024-01-01 - - 0 480 480 480 480 480 0 0",
		"cost 0 1 2024-01-01 end - 0 a:60 b:40", "sheet 0 1 2024-01-01 - p1 480 60", "absent 0 1 2024-01-01 2024-01-05 sick 700000", "bonus 0 1 2024-01-01 - xmas -500",
		"enrol 0 1 2024-01-01 - pension 20000", "deduct 0 1 2024-01-01 - canteen 500", "card 0 1 2024-01-01 - - 1200000 table.a", "attach 0 3 2024-01-01 - loan 500000 1 10% 0.00 1200.00",
		"bank 0 1 2024-01-01 - - 0 de.12", "rule 0 0 2024-01-01 - x -7 any text", "element 0 0 2024-01-01 - meal 0 days*3.5", "holiday 0 0 2024-12-25 - - 0", "grant 0 1 2024-01-01 - - 3000", "cancel 0 0 1970-01-01 - - 17",
	} {
		f, e := fact.Parse(line)
		check(t, "error of "+line, e, api.OK)
		s, e = s.Add(f)
		check(t, "error of Add of "+line, e, api.OK)
		w = append(w, f)
	}
	checkStore(t, s, w)
	for _, f := range w[:16] {
		checkList(t, fmt.Sprint("Facts of ", f.Person, ", ", f.Kind), s.At(99).Facts(f.Person, f.Kind), w.facts(18, f.Person, f.Kind))
		check(t, fmt.Sprint("how many are ", f.Kind), len(s.At(99).Facts(f.Person, f.Kind)), 1)
	}
	check(t, "how many grants are in force", len(s.At(18).Facts(1, fact.Grant)), 0)
	check(t, "how many grants were", len(s.At(17).Facts(1, fact.Grant)), 1)
}

func TestP9_1Errors(t *testing.T) {
	s := told(t, salary(7, 3, 100), salary(0, 2, 100), cancel(5, 1), holiday(6))
	for _, x := range []struct {
		f      fact.Fact
		wanted api.Errno
	}{
		{fact.Fact{}, api.ErrKind},
		{salary(9, 0, 100), api.ErrRange},
		{salary(9, 1, -1), api.ErrRange},
		{fact.Fact{ID: 7, Person: 1, Kind: fact.Salary, From: newYear, Code: "x"}, api.ErrName}, // ahead of its ID
		{fact.Fact{ID: 7, Kind: fact.Rule, From: newYear, Code: "x", Text: strings.Repeat("x", 4097)}, api.ErrLong},
		{salary(7, 3, 100), api.ErrTwice}, // taken back, but there all the same
		{salary(7, 1, 5), api.ErrTwice},
		{holiday(5), api.ErrTwice}, // the ID of a Cancel
		{cancel(6, 2), api.ErrTwice},
		{cancel(6, 99), api.ErrTwice},
		{cancel(5, 3), api.ErrTwice},
		{cancel(0, 0), api.ErrRange},
		{cancel(6, 4097), api.ErrRange},
		{cancel(0, math.MaxInt64), api.ErrRange},
		{cancel(0, 6), api.ErrNone},
		{cancel(0, 4096), api.ErrNone},
		{cancel(0, 5), api.ErrNone}, // its own number
		{cancel(0, 3), api.ErrKind},
		{cancel(0, 1), api.ErrState},
	} {
		refused(t, s, x.f, x.wanted)
	}
	for _, f := range []fact.Fact{salary(0, 3, 100), salary(8, 3, 100), cancel(0, 2), cancel(1, 4)} {
		_, e := s.Add(f)
		check(t, fmt.Sprint("Add of ", f), e, api.OK)
	}
}

func TestP9_1Many(t *testing.T) {
	s, l := full(t)
	check(t, "Len", s.Len(), 4096)
	for _, f := range []fact.Fact{{}, salary(0, 1, 1), l[0], cancel(0, 1), cancel(1, 4096), salary(0, 0, -1)} {
		refused(t, s, f, api.ErrMany)
	}
	less, _, e := store.Store{}.Import(l[:4095]...)
	check(t, "error of one less", e, api.OK)
	refused(t, less, cancel(0, 4096), api.ErrNone)
	less, e = less.Add(cancel(0, 4095))
	check(t, "error of the last one", e, api.OK)
	check(t, "Len of all", less.Len(), 4096)
	check(t, "what is in force of the last one's", len(less.At(4096).Facts(l[4094].Person, fact.Salary)), len(less.At(4095).Facts(l[4094].Person, fact.Salary))-1)
}

func TestP9_1Import(t *testing.T) {
	a, b, c := salary(7, 3, 100), salary(0, 2, 100), cancel(8, 1)
	s, n, e := store.Store{}.Import(a, b, c, a, b, c)
	check(t, "error", e, api.OK)
	check(t, "passed over", n, 2)
	checkStore(t, s, words{a, b, c, b}) // b has no ID: it is told twice
	u, n, e := s.Import(c, a)
	check(t, "error of what is there", e, api.OK)
	check(t, "all passed over", n, 2)
	checkStore(t, u, words{a, b, c, b})
	u, n, e = s.Import()
	check(t, "error of nothing", e, api.OK)
	check(t, "none passed over", n, 0)
	checkStore(t, u, words{a, b, c, b})
	u, n, e = store.Store{}.Import()
	check(t, "error of nothing to nothing", e, api.OK)
	check(t, "none passed over", n, 0)
	checkStore(t, u, nil)
}

func TestP9_1ImportErrors(t *testing.T) {
	a, b, c := salary(7, 3, 100), holiday(8), cancel(9, 1)
	w := words{a, b, c}
	s := told(t, w...)
	for i, x := range []struct {
		l      []fact.Fact
		wanted api.Errno
	}{
		{[]fact.Fact{a, salary(1, 1, 1), salary(7, 3, 101)}, api.ErrTwice},
		{[]fact.Fact{salary(7, 4, 100)}, api.ErrTwice},
		{[]fact.Fact{holiday(7)}, api.ErrTwice},
		{[]fact.Fact{salary(7, 3, -1)}, api.ErrRange}, // that ID's, but not alike: Add's first one
		{[]fact.Fact{salary(2, 1, 1), salary(2, 1, 2)}, api.ErrTwice},
		{[]fact.Fact{b, b, {}}, api.ErrKind},
		{[]fact.Fact{salary(0, 1, 1), cancel(0, 1)}, api.ErrState},
		{[]fact.Fact{cancel(0, 4), salary(0, 1, 1)}, api.ErrNone},
		{[]fact.Fact{salary(0, 1, 1), cancel(0, 4), cancel(0, 5)}, api.ErrKind},
		{[]fact.Fact{salary(0, 1, 1), cancel(0, 4), cancel(0, 4)}, api.ErrState},
		{[]fact.Fact{salary(0, 0, 1), {}}, api.ErrRange}, // from the left
		{[]fact.Fact{{}, salary(0, 0, 1)}, api.ErrKind},
	} {
		got, n, e := s.Import(x.l...)
		check(t, fmt.Sprint("error of Import ", i), e, x.wanted)
		check(t, fmt.Sprint("passed over of Import ", i), n, 0)
		checkList(t, fmt.Sprint("the store beside the error of ", i), got.All(), w.all())
		checkList(t, fmt.Sprint("the store of Import ", i), s.All(), w.all())
	}
	got, n, e := s.Import(a, cancel(9, 1), salary(1, 1, 1), cancel(0, 4), b, salary(1, 1, 1))
	check(t, "error of what is right", e, api.OK)
	check(t, "passed over", n, 4)
	checkStore(t, got, words{a, b, c, salary(1, 1, 1), cancel(0, 4)})
}

func TestP9_1ImportIntoFull(t *testing.T) {
	s, l := full(t)
	u, n, e := s.Import(l...)
	check(t, "error of what is there", e, api.OK)
	check(t, "passed over", n, 4096)
	check(t, "Len", u.Len(), 4096)
	for _, f := range []fact.Fact{salary(0, 1, 0), salary(1, 1, 5), {}, salary(4097, 1, 0)} {
		u, n, e = s.Import(l[0], f)
		check(t, "error of one more", e, api.ErrMany)
		check(t, "none passed over", n, 0)
		check(t, "Len beside the error", u.Len(), 4096)
	}
}

// TestP9ByWords tells stores many things, and holds each against the chapter's words, and all elder ones, too.
func TestP9ByWords(t *testing.T) {
	r := rand.New(rand.NewSource(9))
	for range 150 {
		var stores []store.Store
		var wanted []words
		var s store.Store
		var w words
		for range 14 {
			if r.Intn(4) == 0 && len(stores) > 0 { // from an elder one on
				i := r.Intn(len(stores))
				s, w = stores[i], wanted[i]
			}
			if r.Intn(2) == 0 {
				f := someFact(r)
				e := w.add(f)
				if e == api.OK {
					w = append(slices.Clip(w), f)
				}
				got := api.OK
				s, got = s.Add(f)
				check(t, fmt.Sprint("error of ", f), got, e)
			} else {
				l := someFacts(r)
				grown, passed, e := w.imported(l)
				n, got := 0, api.OK
				s, n, got = s.Import(l...)
				w = grown
				check(t, fmt.Sprint("error of ", l), got, e)
				check(t, fmt.Sprint("passed over of ", l), n, passed)
			}
			stores, wanted = append(stores, s), append(wanted, w)
		}
		for i, s := range stores {
			checkStore(t, s, wanted[i])
			j := r.Intn(len(stores))
			n, m := r.Intn(len(wanted[i])+2), r.Intn(len(wanted[j])+2)
			inA, inB := wanted[i].inForce(min(n, len(wanted[i]))), wanted[j].inForce(min(m, len(wanted[j])))
			checkList(t, "Changed", store.Changed(s.At(n), stores[j].At(m)), changed(inA, inB))
		}
	}
}

// TestMemory: what is handed in stays as it is, and what is done to it, or to an answer, is seen nowhere.
func TestMemory(t *testing.T) {
	room := []fact.Fact{salary(1, 1, 1), cancel(2, 1), salary(3, 1, 3), holiday(4), {}}
	before := slices.Clone(room)
	w := words(before[:4])
	s, _, _ := store.Store{}.Import(room[:4]...)
	checkList(t, "what was handed in", room, before)
	clear(room)
	checkStore(t, s, w)
	v := s.At(4)
	for range 2 {
		for _, l := range [][]store.Known{s.All(), v.Facts(1, fact.Salary), v.Facts(0, fact.Cancel), store.Changed(v, s.At(0))} {
			l = append(l[:1], store.Known{N: 9})
			clear(l)
		}
		p := v.Persons()
		p = append(p[:0], 77)
		clear(p)
	}
	checkStore(t, s, w)
	checkView(t, v, w, 4)
}

// TestValues: stores that are made of one don't see each other's facts, of one person and kind, either.
func TestValues(t *testing.T) {
	base := told(t, salary(1, 1, 1), salary(2, 1, 2), salary(3, 1, 3))
	views := base.At(3)
	var grown []store.Store
	var wanted []words
	for i := range int64(20) {
		s, e := base.Add(salary(4, 1, 100+i))
		check(t, "error", e, api.OK)
		u, _, e := s.Import(salary(5, 1, 200+i), cancel(6, 1+i%5))
		check(t, "error", e, api.OK)
		grown = append(grown, s, u)
		w := words{salary(1, 1, 1), salary(2, 1, 2), salary(3, 1, 3), salary(4, 1, 100+i)}
		wanted = append(wanted, w, append(slices.Clip(w), salary(5, 1, 200+i), cancel(6, 1+i%5)))
	}
	for i, s := range grown {
		checkStore(t, s, wanted[i])
	}
	checkStore(t, base, wanted[0][:3])
	checkView(t, views, wanted[0][:3], 3)
}

// TestAtOnce tells one store things from many sides at once.
func TestAtOnce(t *testing.T) {
	base := told(t, salary(1, 1, 1), cancel(2, 1))
	var wait sync.WaitGroup
	for i := range int64(8) {
		wait.Go(func() {
			s := base
			for k := range int64(50) {
				s, _ = s.Add(salary(0, 1, i*100+k))
			}
			if l := s.At(52).Facts(1, fact.Salary); len(l) != 50 || l[49].Fact.Num != i*100+49 || base.Len() != 2 {
				t.Error("facts", i, len(l))
			}
		})
	}
	wait.Wait()
}

// TestP1NoPanic hands each call what is farthest out.
func TestP1NoPanic(t *testing.T) {
	for _, s := range []store.Store{{}, told(t, salary(1, 1, 1), cancel(2, 1), holiday(3))} {
		for _, n := range []int{math.MinInt, -1, 0, 1, 2, 3, 4, math.MaxInt} {
			v := s.At(n)
			for _, u := range []store.View{{}, v, s.At(2), store.Store{}.At(n)} {
				store.Changed(u, v)
				store.Changed(v, u)
			}
			for _, kind := range []int{math.MinInt, -1, 0, 18, 19, math.MaxInt} {
				v.Facts(0, kind)
				v.Facts(math.MaxUint32, kind)
			}
			v.Persons()
			v.Len()
		}
		for kind := -1; kind < 20; kind++ {
			for _, num := range []int64{math.MinInt64, -1, 0, 1, 4096, math.MaxInt64} {
				f := fact.Fact{ID: math.MaxUint32, Kind: kind, Num: num, From: math.MinInt, To: math.MaxInt}
				s.Add(f)
				s.Import(f, f)
			}
		}
	}
}
