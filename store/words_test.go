package store_test

import (
	"fmt"
	"math/rand"
	"slices"
	"strings"
	"testing"

	"wagebook/api"
	"wagebook/fact"
	"wagebook/store"
)

const newYear = api.Day(19723) // 2024-01-01

// check fails the test, if something is another thing than was wanted.
func check[T comparable](t *testing.T, what string, got, wanted T) {
	t.Helper()
	if got != wanted {
		t.Errorf("%s: %v, wanted %v", what, got, wanted)
	}
}

// checkList fails the test, if a list's elements are others than were wanted; without elements it may be nil or not.
func checkList[T comparable](t *testing.T, what string, got, wanted []T) {
	t.Helper()
	if !slices.Equal(got, wanted) {
		t.Errorf("%s: %.500s, wanted %.500s", what, fmt.Sprint(got), fmt.Sprint(wanted))
	}
}

// salary, cancel and holiday are right facts.
func salary(id, person uint32, num int64) fact.Fact {
	return fact.Fact{ID: id, Person: person, Kind: fact.Salary, From: newYear, Num: num}
}

func cancel(id uint32, n int64) fact.Fact {
	return fact.Fact{ID: id, Kind: fact.Cancel, Num: n}
}

func holiday(id uint32) fact.Fact {
	return fact.Fact{ID: id, Kind: fact.Holiday, From: newYear}
}

// told is a store of these facts, each added in turn.
func told(t *testing.T, l ...fact.Fact) store.Store {
	t.Helper()
	var s store.Store
	for _, f := range l {
		var e api.Errno
		if s, e = s.Add(f); e != api.OK {
			t.Fatalf("Add of %+v: %v", f, e)
		}
	}
	return s
}

// words is a store as the chapter's words have it: all facts, one behind the other.
type words []fact.Fact

// withID is the fact of an ID.
func (w words) withID(id uint32) (fact.Fact, bool) {
	i := slices.IndexFunc(w, func(f fact.Fact) bool { return id != 0 && f.ID == id })
	if i < 0 {
		return fact.Fact{}, false
	}
	return w[i], true
}

// isTaken tells whether a Cancel among the first n facts takes back that of number k.
func (w words) isTaken(k, n int) bool {
	return slices.ContainsFunc(w[:n], func(f fact.Fact) bool { return f.Kind == fact.Cancel && f.Num == int64(k) })
}

// add tells the error of a fact, in the chapter's order.
func (w words) add(f fact.Fact) api.Errno {
	if len(w) >= 4096 {
		return api.ErrMany
	}
	if e := f.Check(); e != api.OK {
		return e
	}
	if _, ok := w.withID(f.ID); ok {
		return api.ErrTwice
	}
	switch n := int(f.Num); {
	case f.Kind != fact.Cancel:
		return api.OK
	case n > len(w):
		return api.ErrNone
	case w[n-1].Kind == fact.Cancel:
		return api.ErrKind
	case w.isTaken(n, len(w)):
		return api.ErrState
	}
	return api.OK
}

// imported is the facts behind an import, how many were passed over, and the error.
func (w words) imported(l []fact.Fact) (words, int, api.Errno) {
	grown := slices.Clone(w)
	passed := 0
	for _, f := range l {
		if g, ok := grown.withID(f.ID); ok && g.Same(f) {
			passed++
			continue
		}
		if e := grown.add(f); e != api.OK {
			return w, 0, e
		}
		grown = append(grown, f)
	}
	return grown, passed, api.OK
}

// knowns is the facts of which asked is true, each with its number.
func (w words) knowns(asked func(n int, f fact.Fact) bool) []store.Known {
	var l []store.Known
	for i, f := range w {
		if asked(i+1, f) {
			l = append(l, store.Known{N: i + 1, Fact: f})
		}
	}
	return l
}

// all is all of them.
func (w words) all() []store.Known {
	return w.knowns(func(int, fact.Fact) bool { return true })
}

// inForce is what is in force behind n facts.
func (w words) inForce(n int) []store.Known {
	return w.knowns(func(k int, f fact.Fact) bool {
		return k <= n && f.Kind != fact.Cancel && !w.isTaken(k, n)
	})
}

// facts is a person's of a kind that are in force behind n facts; of Cancels all.
func (w words) facts(n int, person uint32, kind int) []store.Known {
	if kind == fact.Cancel {
		return w.knowns(func(k int, f fact.Fact) bool { return k <= n && f.Kind == kind && f.Person == person })
	}
	return slices.DeleteFunc(w.inForce(n), func(k store.Known) bool { return k.Fact.Person != person || k.Fact.Kind != kind })
}

// persons is of whom there is a fact in force behind n facts.
func (w words) persons(n int) []uint32 {
	var l []uint32
	for _, k := range w.inForce(n) {
		if k.Fact.Person != 0 && !slices.Contains(l, k.Fact.Person) {
			l = append(l, k.Fact.Person)
		}
	}
	slices.Sort(l)
	return l
}

// changed is what is in force in one alone of two, found number by number.
func changed(inA, inB []store.Known) []store.Known {
	var l []store.Known
	for n := 1; n <= 4096; n++ {
		for _, k := range inA {
			if k.N == n && !slices.Contains(inB, k) {
				l = append(l, k)
			}
		}
		for _, k := range inB {
			if k.N == n && !slices.Contains(inA, k) {
				l = append(l, k)
			}
		}
	}
	return l
}

// someFact is a fact among few, right or not, so that IDs, persons and what is taken back meet.
func someFact(r *rand.Rand) fact.Fact {
	id := uint32(r.Intn(12))
	switch r.Intn(7) {
	case 0, 1:
		return cancel(id, int64(r.Intn(14)))
	case 2:
		return holiday(id)
	case 3:
		return fact.Fact{ID: id, Person: uint32(r.Intn(3)), Kind: fact.Bonus, From: newYear, Code: []string{"a", "b", "A"}[r.Intn(3)]}
	}
	return salary(id, uint32(1+r.Intn(3)), int64(r.Intn(3)))
}

// someFacts is a few of them.
func someFacts(r *rand.Rand) []fact.Fact {
	l := make([]fact.Fact, r.Intn(5))
	for i := range l {
		l[i] = someFact(r)
	}
	return l
}

// checkStore holds a store, and all its views, against the words.
func checkStore(t *testing.T, s store.Store, w words) {
	t.Helper()
	check(t, "Len", s.Len(), len(w))
	checkList(t, "All", s.All(), w.all())
	for n := -1; n <= len(w)+1; n++ {
		checkView(t, s.At(n), w, min(max(n, 0), len(w)))
	}
}

// checkView holds a view against the words of the first n facts.
func checkView(t *testing.T, v store.View, w words, n int) {
	t.Helper()
	check(t, fmt.Sprint("Len at ", n), v.Len(), n)
	checkList(t, fmt.Sprint("Persons at ", n), v.Persons(), w.persons(n))
	for person := range uint32(4) {
		for _, kind := range []int{fact.Salary, fact.Bonus, fact.Holiday, fact.Cancel, 0, -1, 19} {
			checkList(t, fmt.Sprint("Facts at ", n, " of ", person, ", ", kind), v.Facts(person, kind), w.facts(n, person, kind))
		}
	}
}

// long is a right fact whose text is as long as it may be.
func long(id uint32) fact.Fact {
	return fact.Fact{ID: id, Kind: fact.Rule, From: newYear, Code: "x", Text: strings.Repeat("~", 4096)}
}
