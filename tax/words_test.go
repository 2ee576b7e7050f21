package tax_test

import (
	"fmt"
	"math"
	"math/big"
	"math/rand"
	"testing"

	"wagebook/api"
	"wagebook/tax"
)

const (
	most    = api.Cents(1) << 50
	one     = api.Rate(1000000)
	lowest  = math.MinInt64
	highest = math.MaxInt64
)

// check fails the test, if something is another thing than was wanted.
func check[T comparable](t *testing.T, what string, got, wanted T) {
	t.Helper()
	if got != wanted {
		t.Errorf("%s: %v, wanted %v", what, got, wanted)
	}
}

// told is what a call answered, or is to answer.
type told struct {
	sums tax.Sums
	c    api.Cents
	e    api.Errno
}

// amount is what a call answered that tells no sums.
func amount(c api.Cents, e api.Errno) told { return told{c: c, e: e} }

// step is what Step answered.
func step(was tax.Sums, base api.Cents, index, of int, c api.Card) told {
	sums, held, e := tax.Step(was, base, index, of, c)
	return told{sums, held, e}
}

// card is one of these amounts, and of bands of these numbers: a From and a Rate by turns.
func card(allowance, extra api.Cents, numbers ...int64) api.Card {
	c := api.Card{Allowance: allowance, Extra: extra}
	for i := 0; i < len(numbers); i += 2 {
		c.Bands = append(c.Bands, api.Band{From: api.Cents(numbers[i]), Rate: api.Rate(numbers[i+1])})
	}
	return c
}

// example is the chapter's: 1200.00 are free, a fifth is taken of all above.
func example() api.Card { return card(120000, 0, 0, 200000) }

// three is a card of three bands, and of something withheld besides.
func three() api.Card { return card(120000, 500, 0, 0, 100000, 200000, 500000, 400000) }

// many is a right card of so many bands, a cent each.
func many(n int) api.Card {
	var c api.Card
	for i := range n {
		c.Bands = append(c.Bands, api.Band{From: api.Cents(i), Rate: api.Rate(i * 10000)})
	}
	return c
}

// isAmount tells whether an amount is from least to 2^50.
func isAmount(c api.Cents, least int64) bool { return least <= int64(c) && int64(c) <= 1<<50 }

// bandsByWords is what layer 21's Check is to tell.
func bandsByWords(l []api.Band) api.Errno {
	if len(l) > 64 {
		return api.ErrMany
	}
	ahead := api.Cents(-1)
	for i, b := range l {
		if i == 0 && b.From != 0 || b.From <= ahead {
			return api.ErrOrder
		}
		if b.From > most || b.Rate < 0 || b.Rate > one {
			return api.ErrRange
		}
		ahead = b.From
	}
	return api.OK
}

// toDateByWords is what ToDate is to tell: what is above the year's share that is free, as a whole year's, band by band, and for as much of the year as is over; reckoned by fractions.
func toDateByWords(base api.Cents, index, of int, c api.Card) told {
	if index < 1 || index > of || of > 400 || !isAmount(base, -1<<50) || !isAmount(c.Allowance, 0) || !isAmount(c.Extra, 0) {
		return told{e: api.ErrRange}
	}
	if e := bandsByWords(c.Bands); e != api.OK {
		return told{e: e}
	}
	over := big.NewRat(int64(index), int64(of))
	year := new(big.Rat).Quo(big.NewRat(int64(base), 1), over) // what the year's base is, if it goes on so
	year.Sub(year, big.NewRat(int64(c.Allowance), 1))
	sum := new(big.Rat)
	for i, b := range c.Bands {
		end := year
		if i < len(c.Bands)-1 {
			if next := big.NewRat(int64(c.Bands[i+1].From), 1); next.Cmp(end) < 0 {
				end = next
			}
		}
		if held := new(big.Rat).Sub(end, big.NewRat(int64(b.From), 1)); held.Sign() > 0 {
			sum.Add(sum, held.Mul(held, big.NewRat(int64(b.Rate), 1000000)))
		}
	}
	sum.Mul(sum, over)
	sum.Add(sum, big.NewRat(1, 2)) // never below 0: what is nearest, a half away from 0, is the whole part of this
	tax := api.Cents(new(big.Int).Quo(sum.Num(), sum.Denom()).Int64())
	if !isAmount(tax, 0) {
		return told{e: api.ErrOverflow}
	}
	return told{c: tax}
}

// stepByWords is what Step is to tell.
func stepByWords(was tax.Sums, base api.Cents, index, of int, c api.Card) told {
	if !isAmount(was.Base, -1<<50) || !isAmount(was.Tax, -1<<50) || !isAmount(base, -1<<50) {
		return told{was, 0, api.ErrRange}
	}
	all := was.Base + base // of two that fit
	if !isAmount(all, -1<<50) {
		return told{was, 0, api.ErrOverflow}
	}
	toDate := toDateByWords(all, index, of, c)
	if toDate.e != api.OK {
		return told{was, 0, toDate.e}
	}
	held := new(big.Int).Sub(big.NewInt(int64(toDate.c)), big.NewInt(int64(was.Tax)))
	held.Add(held, big.NewInt(int64(c.Extra)))
	if held.CmpAbs(big.NewInt(1<<50)) > 0 {
		return told{was, 0, api.ErrOverflow}
	}
	return told{tax.Sums{Base: all, Tax: toDate.c}, api.Cents(held.Int64()), api.OK}
}

// singleByWords is what Single is to tell.
func singleByWords(base api.Cents, of int, c api.Card) told {
	toDate := toDateByWords(base, 1, of, c)
	if toDate.e != api.OK {
		return toDate
	}
	if toDate.c > most-c.Extra {
		return told{e: api.ErrOverflow}
	}
	return told{c: toDate.c + c.Extra}
}

// someAmount is one of any size, or rarely one near the limits, or any number.
func someAmount(r *rand.Rand, isBelow bool) api.Cents {
	switch r.Intn(30) {
	case 0:
		return most + api.Cents(r.Intn(5)-2)
	case 1:
		return []api.Cents{lowest, highest, -1, lowest + 1, highest - 1}[r.Intn(5)]
	case 2:
		return most
	}
	c := api.Cents(r.Int63n(1 << (1 + r.Intn(50))))
	if isBelow && r.Intn(3) == 0 {
		return -c
	}
	return c
}

// someCard is mostly a right card; its bands are of any size, or, if it is to be small, no wider than small periods' bases.
func someCard(r *rand.Rand, isSmall bool) api.Card {
	var c api.Card
	if isSmall {
		c.Allowance, c.Extra = api.Cents(r.Intn(3)*r.Intn(20000)), api.Cents(r.Intn(2)*r.Intn(500))
	} else {
		c.Allowance = someAmount(r, false)
		if r.Intn(2) == 0 {
			c.Extra = someAmount(r, false)
		}
	}
	from := api.Cents(0)
	for range r.Intn(6) {
		c.Bands = append(c.Bands, api.Band{From: from, Rate: []api.Rate{0, 1, 500000, one, api.Rate(r.Intn(1000001)), api.Rate(r.Intn(101) * 10000)}[r.Intn(6)]})
		if isSmall {
			from += 1 + api.Cents(r.Intn(9000))
		} else {
			from += 1 + api.Cents(r.Int63n(1<<(1+r.Intn(49))))
		}
		if from > most {
			break
		}
	}
	if n := len(c.Bands); n > 0 && !isSmall && r.Intn(12) == 0 {
		b := &c.Bands[r.Intn(n)]
		b.From, b.Rate = b.From+api.Cents(r.Intn(3)-1), b.Rate+[]api.Rate{-1, 0, 1, one, highest}[r.Intn(5)]
	}
	return c
}

// someIndex is mostly a period of a year.
func someIndex(r *rand.Rand) (int, int) {
	of := 1 + r.Intn([]int{1, 12, 26, 400, 401}[r.Intn(5)])
	index := 1 + r.Intn(of)
	if r.Intn(30) == 0 {
		index = []int{0, of + 1, -1, lowest, highest}[r.Intn(5)]
	}
	return index, of
}

// named is how a card stands in a failed test's message.
func named(what string, c api.Card) string { return fmt.Sprintf("%s by %.300s", what, fmt.Sprint(c)) }
