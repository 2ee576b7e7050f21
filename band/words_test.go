package band_test

import (
	"fmt"
	"math"
	"math/big"
	"math/rand"
	"slices"
	"strings"
	"testing"

	"wagebook/api"
	"wagebook/band"
	"wagebook/cents"
	"wagebook/rate"
)

const (
	most    = api.Cents(1) << 50
	one     = api.Rate(1000000)
	lowest  = math.MinInt64
	highest = math.MaxInt64
)

// check fails the test, if something is another thing than was wanted.
func check[T comparable](t *testing.T, what string, got, wanted T) {
	t.Helper()
	if got != wanted {
		t.Errorf("%s: %v, wanted %v", what, got, wanted)
	}
}

// checkAmount fails the test, if there is an error, or an amount is another one than was wanted.
func checkAmount(t *testing.T, what string, got api.Cents, e api.Errno, wanted api.Cents) {
	t.Helper()
	check(t, "error of "+what, e, api.OK)
	check(t, what, got, wanted)
}

// checkRefused fails the test, if the error is another one than was wanted, or there is an amount beside it.
func checkRefused(t *testing.T, what string, got api.Cents, e, wanted api.Errno) {
	t.Helper()
	check(t, "error of "+what, e, wanted)
	check(t, "amount beside it, of "+what, got, 0)
}

// table is a list of bands of these numbers: a From and a Rate by turns.
func table(numbers ...int64) []api.Band {
	var l []api.Band
	for i := 0; i < len(numbers); i += 2 {
		l = append(l, api.Band{From: api.Cents(numbers[i]), Rate: api.Rate(numbers[i+1])})
	}
	return l
}

// example is the chapter's: nothing, a fifth from 1000.00 on, two fifths from 5000.00 on.
func example() []api.Band { return table(0, 0, 100000, 200000, 500000, 400000) }

// many is a right table of so many bands, a cent each.
func many(n int) []api.Band {
	var l []api.Band
	for i := range n {
		l = append(l, api.Band{From: api.Cents(i), Rate: api.Rate(i * 10000)})
	}
	return l
}

// checkByWords is what Check is to tell.
func checkByWords(l []api.Band) api.Errno {
	if len(l) > 64 {
		return api.ErrMany
	}
	ahead := int64(-1)
	for i, b := range l {
		if i == 0 && b.From != 0 || i > 0 && int64(b.From) <= ahead {
			return api.ErrOrder
		}
		if int64(b.From) > 1<<50 || b.Rate < 0 || b.Rate > 1000000 {
			return api.ErrRange
		}
		ahead = int64(b.From)
	}
	return api.OK
}

// scaledByWords is what Scaled is to tell, reckoned without a limit.
func scaledByWords(x int64, index, of int, l []api.Band) (api.Cents, api.Errno) {
	if e := checkByWords(l); e != api.OK {
		return 0, e
	}
	if index < 1 || index > of || of > 400 {
		return 0, api.ErrRange
	}
	sum := new(big.Rat)
	amount := big.NewInt(x)
	for i, b := range l {
		from := new(big.Int).Mul(big.NewInt(int64(b.From)), big.NewInt(int64(index)))
		end := amount
		if i < len(l)-1 {
			next := new(big.Int).Mul(big.NewInt(int64(l[i+1].From)), big.NewInt(int64(index)))
			if next.Cmp(end) < 0 {
				end = next
			}
		}
		if held := new(big.Int).Sub(end, from); held.Sign() > 0 {
			sum.Add(sum, new(big.Rat).SetFrac(held.Mul(held, big.NewInt(int64(b.Rate))), big.NewInt(1000000)))
		}
	}
	sum.Quo(sum, big.NewRat(int64(of), 1))
	sum.Add(sum, big.NewRat(1, 2)) // never below 0: what is nearest, a half away from 0, is the whole part of this
	c := new(big.Int).Quo(sum.Num(), sum.Denom())
	if c.Cmp(big.NewInt(1<<50)) > 0 {
		return 0, api.ErrOverflow
	}
	return api.Cents(c.Int64()), api.OK
}

// centByCent is what a table takes of a small amount: of each cent the millionths of the band that has it.
func centByCent(x int64, index, of int, l []api.Band) api.Cents {
	var sum int64
	for cent := range max(x, 0) {
		var r api.Rate
		for _, b := range l {
			if int64(b.From)*int64(index) <= cent {
				r = b.Rate
			}
		}
		sum += int64(r)
	}
	whole := int64(of) * 1000000
	c := sum / whole
	if 2*(sum%whole) >= whole {
		c++
	}
	return api.Cents(c)
}

// textByWords is what Text is to tell.
func textByWords(l []api.Band) string {
	if checkByWords(l) != api.OK {
		return ""
	}
	text := ""
	for i, b := range l {
		if i > 0 {
			text += " "
		}
		text += cents.Text(b.From) + ":" + rate.Text(b.Rate)
	}
	return text
}

// parseByWords is what Parse is to tell: each word is a table's of its own, if it begins with 0.00.
func parseByWords(s string) ([]api.Band, api.Errno) {
	var l []api.Band
	for _, word := range strings.Split(s, " ") {
		if s == "" {
			break
		}
		i := strings.Index(word, ":")
		if i < 0 {
			return nil, api.ErrForm
		}
		c, e := cents.Parse(word[:i])
		r, e2 := rate.Parse(word[i+1:])
		if e != api.OK || e2 != api.OK {
			return nil, api.ErrForm
		}
		l = append(l, api.Band{From: c, Rate: r})
	}
	if e := checkByWords(l); e != api.OK {
		return nil, e
	}
	return l, api.OK
}

// someRate is a rate from nothing to all.
func someRate(r *rand.Rand) api.Rate {
	return []api.Rate{0, 1, 499999, 500000, 500001, 999999, one, api.Rate(r.Intn(1000001)), api.Rate(r.Intn(1000001)), api.Rate(r.Intn(101) * 10000)}[r.Intn(10)]
}

// someTable is a right table, whose bands are small ones, or of any size.
func someTable(r *rand.Rand, isSmall bool) []api.Band {
	var l []api.Band
	from := api.Cents(0)
	for range r.Intn(6) {
		l = append(l, api.Band{From: from, Rate: someRate(r)})
		if isSmall {
			from += 1 + api.Cents(r.Intn(40))
		} else {
			from += 1 + api.Cents(r.Int63n(1<<(1+r.Intn(49))))
		}
		if from > most {
			break
		}
	}
	return l
}

// spoilt is a table that in most cases isn't right any more.
func spoilt(r *rand.Rand, l []api.Band) []api.Band {
	l = slices.Clone(l)
	if len(l) == 0 {
		return table(1, 0)
	}
	b := &l[r.Intn(len(l))]
	switch r.Intn(6) {
	case 0:
		b.From = api.Cents(r.Intn(3) - 1)
	case 1:
		b.From = most + api.Cents(r.Intn(3)) - 1
	case 2:
		b.Rate = one + api.Rate(r.Intn(3)) - 1
	case 3:
		b.Rate = api.Rate(r.Intn(3) - 2)
	case 4:
		b.From, b.Rate = []api.Cents{lowest, highest}[r.Intn(2)], []api.Rate{lowest, highest}[r.Intn(2)]
	case 5:
		l = append(l, l...)
	}
	return l
}

// someAmount is any number: one near a band's end, near the limits, or between.
func someAmount(r *rand.Rand, index int, l []api.Band) int64 {
	if len(l) > 0 && r.Intn(2) == 0 {
		return int64(l[r.Intn(len(l))].From)*int64(index) + int64(r.Intn(7)-3)
	}
	switch r.Intn(7) {
	case 0:
		return int64(r.Intn(300) - 20)
	case 1:
		return int64(most) + int64(r.Intn(5)-2)
	case 2:
		return int64(highest) - int64(r.Intn(3))
	case 3:
		return int64(lowest) + int64(r.Intn(3))
	case 4:
		return r.Int63()
	}
	return r.Int63n(int64(most))
}

// named is how a table stands in a failed test's message.
func named(what string, l []api.Band) string { return fmt.Sprintf("%s %.300s", what, fmt.Sprint(l)) }

// backByWords is the least amount of a small table that has the tax, found one by one up to a bound.
func backByWords(tax api.Cents, bound int64, l []api.Band) (api.Cents, bool) {
	for x := range bound {
		if centByCent(x, 1, 1, l) == tax {
			return api.Cents(x), true
		}
	}
	return 0, false
}

// greatest is the tax of the greatest amount.
func greatest(t *testing.T, l []api.Band) api.Cents {
	t.Helper()
	c, e := band.Of(most, l...)
	check(t, named("error of the greatest amount by", l), e, api.OK)
	return c
}
