package store

import (
	"maps"
	"slices"

	"wagebook/fact"
)

// View is what was known behind the first n facts of a store; of later ones it tells nothing.
type View struct {
	store Store
	n     int
}

// Facts is a person's facts of a kind that are in force, by their numbers; of Cancels all.
func (v View) Facts(person uint32, kind int) []Known {
	var l []Known
	for _, k := range v.store.facts[owner{person, kind}] {
		if v.holds(k) {
			l = append(l, k)
		}
	}
	return l
}

// Persons is those of whom facts are in force, but for the firm, rising.
func (v View) Persons() []uint32 {
	seen := map[uint32]bool{}
	for of, l := range v.store.facts {
		if of.person != 0 && slices.ContainsFunc(l, v.holds) {
			seen[of.person] = true
		}
	}
	return slices.Sorted(maps.Keys(seen))
}

// Len is how many facts the view is of.
func (v View) Len() int {
	return v.n
}

// Changed is what is in force in just one of two views. They may be of two stores, so that one number may stand for two facts.
func Changed(a, b View) []Known {
	most := max(a.n, b.n)
	inA, inB := a.inForce(most), b.inForce(most)
	var changed []Known
	for i := range most {
		if inA[i] == inB[i] {
			continue
		}
		for _, k := range []Known{inA[i], inB[i]} {
			if k.N != 0 {
				changed = append(changed, k)
			}
		}
	}
	return changed
}

// inForce is the facts that are in force, each at the place of its number, of so many places; where none is, there is none's number, 0.
func (v View) inForce(places int) []Known {
	facts := make([]Known, places)
	for of, l := range v.store.facts {
		for _, k := range l {
			if of.kind != fact.Cancel && v.holds(k) {
				facts[k.N-1] = k
			}
		}
	}
	return facts
}

// holds tells whether a fact of the store is one of the view's, and no Cancel of the view takes it back.
func (v View) holds(k Known) bool {
	cancel, found := v.store.cancels[k.N]
	return k.N <= v.n && !(found && cancel <= v.n)
}
