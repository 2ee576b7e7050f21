package leave

import (
	"cmp"
	"slices"

	"wagebook/api"
)

// balance is what is fresh of an account, and what is carried (never below 0), beside all that was granted, taken and lost.
type balance struct {
	fresh, carried       int
	granted, taken, lost int
}

// act is what happens on a day, as what it makes of a balance.
type act struct {
	day api.Day
	do  func(b balance) balance
}

// acts is what happens in a year, by its days: on one day the year's turn first, then the loss of what was carried, then the moves.
func (p Plan) acts(year int, moves []Move) []act {
	var l []act
	if year > p.Year {
		l = append(l, act{monthStart(year, 1), func(b balance) balance { return b.turned(p.Carry) }})
	}
	if p.Expire < yearMonths { // else it is lost by the next year's turn
		l = append(l, act{monthStart(year, 1+p.Expire), balance.expired})
	}
	for _, m := range moves {
		l = append(l, act{m.Day, func(b balance) balance { return b.moved(m) }})
	}
	slices.SortStableFunc(l, func(a, b act) int { return cmp.Compare(a.day, b.day) })
	return l
}

// turned is the balance with a year's first day: of what was fresh no more than so much is carried.
func (b balance) turned(most int) balance {
	b = b.expired()
	left := max(0, b.fresh)
	b.fresh -= left
	b.carried = min(left, most)
	b.lost += left - b.carried
	return b
}

// expired is the balance without what was carried, which is lost.
func (b balance) expired() balance {
	b.lost += b.carried
	b.carried = 0
	return b
}

// moved is the balance behind a move: what it takes is taken from what was carried first.
func (b balance) moved(m Move) balance {
	old := min(b.carried, m.Taken)
	b.carried -= old
	b.fresh += m.Granted - (m.Taken - old)
	b.granted += m.Granted
	b.taken += m.Taken
	return b
}

// account is the balance's sums.
func (b balance) account() Account {
	return Account{Granted: b.granted, Taken: b.taken, Expired: b.lost, Left: b.fresh + b.carried}
}
