package before_test

import (
	"fmt"
	"maps"
	"math"
	"math/big"
	"math/rand"
	"slices"
	"strings"
	"testing"

	"wagebook/api"
	"wagebook/before"
)

const (
	most    = api.Cents(1) << 50
	one     = api.Rate(1000000)
	lowest  = math.MinInt64
	highest = math.MaxInt64
)

// sums are amounts by codes.
type sums = map[string]api.Cents

// check fails the test, if something is another thing than was wanted.
func check[T comparable](t *testing.T, what string, got, wanted T) {
	t.Helper()
	if got != wanted {
		t.Errorf("%s: %v, wanted %v", what, got, wanted)
	}
}

// call is what Take is handed.
type call struct {
	gross  api.Cents
	was    sums
	wanted []api.Item
	limits []api.Limit
}

// take is what Take answers.
func (c call) take() ([]api.Item, sums, api.Errno) {
	return before.Take(c.gross, c.was, c.wanted, c.limits...)
}

// text is how a call stands in a failed test's message.
func (c call) text() string {
	return fmt.Sprintf("%d behind %v, wanted %.200s by %.200s", c.gross, c.was, fmt.Sprint(c.wanted), fmt.Sprint(c.limits))
}

// checkTaken fails the test, if a call doesn't take these items, or tells other sums.
func checkTaken(t *testing.T, c call, wanted []api.Item, sumsWanted sums) {
	t.Helper()
	got, now, e := c.take()
	check(t, "error of "+c.text(), e, api.OK)
	if !slices.Equal(got, wanted) {
		t.Errorf("%s: %v are taken, wanted %v", c.text(), got, wanted)
	}
	if !maps.Equal(now, sumsWanted) {
		t.Errorf("%s: so far %v, wanted %v", c.text(), now, sumsWanted)
	}
}

// checkRefused fails the test, if a call has another error, or anything beside it.
func checkRefused(t *testing.T, c call, wanted api.Errno) {
	t.Helper()
	got, now, e := c.take()
	check(t, "error of "+c.text(), e, wanted)
	check(t, "what stands beside the error of "+c.text(), len(got)+len(now), 0)
}

// items are some of these codes and amounts, by turns.
func items(l ...any) []api.Item {
	var told []api.Item
	for i := 0; i < len(l); i += 2 {
		told = append(told, api.Item{Code: l[i].(string), Cents: api.Cents(l[i+1].(int))})
	}
	return told
}

// numbered are so many items of different codes, a cent each.
func numbered(n int) []api.Item {
	var l []api.Item
	for i := range n {
		l = append(l, api.Item{Code: fmt.Sprint("n", i), Cents: 1})
	}
	return l
}

// limitsOf are limits of none, of the codes of items.
func limitsOf(l []api.Item) []api.Limit {
	var limits []api.Limit
	for _, i := range l {
		limits = append(limits, api.Limit{Code: i.Code})
	}
	return limits
}

// isName is as chapter 8 says.
func isName(s string) bool {
	return len(s) >= 1 && len(s) <= 32 && s != "-" && strings.Trim(s, "abcdefghijklmnopqrstuvwxyz0123456789._-") == ""
}

// isBetween tells whether a number is from one to another.
func isBetween(n, least, greatest int64) bool { return least <= n && n <= greatest }

// partByWords is a part of an amount from 0 on, the nearest, of two the greater one.
func partByWords(c api.Cents, r api.Rate) api.Cents {
	n := new(big.Int).Mul(big.NewInt(int64(c)), big.NewInt(int64(r)))
	n.Add(n, big.NewInt(500000))
	return api.Cents(n.Quo(n, big.NewInt(1000000)).Int64())
}

// limitsByWords is what is wrong with limits.
func limitsByWords(l []api.Limit) api.Errno {
	if len(l) > 64 {
		return api.ErrMany
	}
	for i, x := range l {
		if !isName(x.Code) {
			return api.ErrName
		}
		if slices.ContainsFunc(l[:i], func(elder api.Limit) bool { return elder.Code == x.Code }) {
			return api.ErrTwice
		}
		if !isBetween(int64(x.Most), 0, 1000000) || !isBetween(int64(x.Yearly), 0, 1<<50) {
			return api.ErrRange
		}
	}
	return api.OK
}

// takenOf is what items of a code come to.
func takenOf(l []api.Item, code string) api.Cents {
	var sum api.Cents
	for _, i := range l {
		if i.Code == code {
			sum += i.Cents
		}
	}
	return sum
}

// boundsByWords are the amounts of which a deduction takes the least, behind those that the call has taken.
func (c call) boundsByWords(item api.Item, taken []api.Item) []api.Cents {
	left := c.gross
	for _, i := range taken {
		left -= i.Cents
	}
	bounds := []api.Cents{item.Cents, left}
	for _, l := range c.limits {
		if l.Code != item.Code {
			continue
		}
		if l.Most != 1000000 {
			bounds = append(bounds, partByWords(c.gross, l.Most)-takenOf(taken, item.Code))
		}
		if l.Yearly != 0 {
			bounds = append(bounds, max(l.Yearly-c.was[item.Code]-takenOf(taken, item.Code), 0))
		}
	}
	return bounds
}

// byWords is what Take is to tell.
func (c call) byWords() ([]api.Item, sums, api.Errno) {
	if !isBetween(int64(c.gross), -1<<50, 1<<50) {
		return nil, nil, api.ErrRange
	}
	if e := limitsByWords(c.limits); e != api.OK {
		return nil, nil, e
	}
	if len(c.wanted) > 64 {
		return nil, nil, api.ErrMany
	}
	var taken []api.Item // with those of 0
	for _, item := range c.wanted {
		if !isName(item.Code) {
			return nil, nil, api.ErrName
		}
		if !isBetween(int64(item.Cents), 0, 1<<50) || !isBetween(int64(c.was[item.Code]), 0, 1<<50) {
			return nil, nil, api.ErrRange
		}
		told := api.Item{Code: item.Code}
		if c.gross > 0 {
			told.Cents = slices.Min(c.boundsByWords(item, taken))
		}
		taken = append(taken, told)
		if c.was[item.Code]+takenOf(taken, item.Code) > 1<<50 {
			return nil, nil, api.ErrOverflow
		}
	}
	now := sums{}
	for code, sum := range c.was {
		now[code] = sum
	}
	for _, i := range taken {
		now[i.Code] = c.was[i.Code] + takenOf(taken, i.Code)
	}
	return slices.DeleteFunc(taken, func(i api.Item) bool { return i.Cents == 0 }), now, api.OK
}

// someAmount is one from 0 on, below a bound and of any size, or, if it may be wrong, rarely one at the limits or beyond them.
func someAmount(r *rand.Rand, bits int, mayBeWrong bool) api.Cents {
	if mayBeWrong {
		switch r.Intn(40) {
		case 0:
			return most + api.Cents(r.Intn(5)-2)
		case 1:
			return []api.Cents{lowest, highest, -1, lowest + 1, highest - 1, -most}[r.Intn(6)]
		}
	}
	return api.Cents(r.Int63n(1 << (1 + r.Intn(bits))))
}

// someCode is one of few; if it may be wrong, rarely no name.
func someCode(r *rand.Rand, mayBeWrong bool) string {
	if mayBeWrong && r.Intn(80) == 0 {
		return []string{"", "-", "A", "a b", "a:", "\xff", strings.Repeat("x", 33)}[r.Intn(7)]
	}
	return string(rune('a' + r.Intn(5)))
}

// someRate is one from nothing to all; if it may be wrong, rarely another one.
func someRate(r *rand.Rand, mayBeWrong bool) api.Rate {
	if mayBeWrong && r.Intn(60) == 0 {
		return []api.Rate{-1, one + 1, lowest, highest}[r.Intn(4)]
	}
	return []api.Rate{0, 1, 500000, one - 1, one, one, api.Rate(r.Intn(1000001)), api.Rate(r.Intn(101) * 10000)}[r.Intn(8)]
}

// someCall is one of amounts below so many bits; if it may be wrong, sometimes with something that isn't right.
func someCall(r *rand.Rand, bits int, mayBeWrong bool) call {
	c := call{gross: someAmount(r, bits, mayBeWrong), was: sums{}}
	if r.Intn(10) == 0 {
		c.gross = -c.gross
	}
	for range r.Intn(5) {
		c.was[someCode(r, mayBeWrong)] = someAmount(r, bits, mayBeWrong)
	}
	for range r.Intn(7) {
		c.wanted = append(c.wanted, api.Item{Code: someCode(r, mayBeWrong), Cents: someAmount(r, bits, mayBeWrong)})
	}
	for _, i := range r.Perm(5)[:r.Intn(5)] {
		l := api.Limit{Code: string(rune('a' + i)), Most: someRate(r, mayBeWrong)}
		if r.Intn(2) == 0 {
			l.Yearly = someAmount(r, bits, mayBeWrong)
		}
		if mayBeWrong && r.Intn(30) == 0 {
			l.Code = someCode(r, true)
		}
		c.limits = append(c.limits, l)
	}
	return c
}
