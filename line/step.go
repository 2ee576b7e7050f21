package line

import (
	"cmp"
	"slices"

	"wagebook/api"
	"wagebook/store"
)

// none is the rank of no fact.
const none = -1

// end is a day on which the fact of a rank begins to cover days, or no longer does.
type end struct {
	day  api.Day
	rank int
}

// ranked is the facts in such an order that of those that cover a day the first one is in force.
func ranked(l []store.Known) []store.Known {
	facts := slices.Clone(l)
	slices.SortStableFunc(facts, func(a, b store.Known) int { return cmp.Compare(b.N, a.N) })
	return facts
}

// stepsOf goes from end to end, and gathers the days on which another fact gets in force. That is told by the rank, as two facts may have one value.
func stepsOf(facts []store.Known) []step {
	var steps []step
	var covering []int
	before := none
	ends := endsOf(facts)
	for i, e := range ends {
		covering = turned(covering, e.rank)
		if i+1 < len(ends) && ends[i+1].day == e.day {
			continue // what is in force on the day is known behind its last end
		}
		now := first(covering)
		if now != before {
			steps = append(steps, stepTo(e.day, facts, now))
		}
		before = now
	}
	return steps
}

// endsOf is the ends of all facts that cover a day, rising.
func endsOf(facts []store.Known) []end {
	var ends []end
	for rank, k := range facts {
		from, to := k.Fact.From, k.Fact.To
		if to == 0 || from < to {
			ends = append(ends, end{from, rank})
		}
		if to != 0 && from < to {
			ends = append(ends, end{to, rank})
		}
	}
	slices.SortFunc(ends, func(a, b end) int { return cmp.Compare(a.day, b.day) })
	return ends
}

// turned is rising ranks with one more, or without it, if it is among them.
func turned(ranks []int, rank int) []int {
	at, found := slices.BinarySearch(ranks, rank)
	if found {
		return slices.Delete(ranks, at, at+1)
	}
	return slices.Insert(ranks, at, rank)
}

// first is the least one of rising ranks.
func first(ranks []int) int {
	if len(ranks) == 0 {
		return none
	}
	return ranks[0]
}

// stepTo is the step to the fact of a rank.
func stepTo(d api.Day, facts []store.Known, rank int) step {
	if rank == none {
		return step{from: d}
	}
	k := facts[rank]
	return step{from: d, some: true, value: Value{N: k.N, Num: k.Fact.Num, Text: k.Fact.Text}}
}
