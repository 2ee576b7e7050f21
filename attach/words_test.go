package attach_test

import (
	"fmt"
	"maps"
	"math"
	"math/big"
	"math/rand"
	"slices"
	"strings"
	"testing"

	"wagebook/api"
	"wagebook/attach"
)

const (
	most    = api.Cents(1) << 50
	one     = api.Rate(1000000)
	lowest  = math.MinInt64
	highest = math.MaxInt64
)

// check fails the test, if something is another thing than was wanted.
func check[T comparable](t *testing.T, what string, got, wanted T) {
	t.Helper()
	if got != wanted {
		t.Errorf("%s: %v, wanted %v", what, got, wanted)
	}
}

// named is how a call of Take stands in a failed test's message.
func named(net api.Cents, was attach.Paid, l []api.Order) string {
	return fmt.Sprintf("%d behind %v by %.300s", net, was, fmt.Sprintf("%+v", l))
}

// checkTaken fails the test, if the orders don't take these items, or tell other sums.
func checkTaken(t *testing.T, net api.Cents, was attach.Paid, l []api.Order, wanted []api.Item, paid attach.Paid) {
	t.Helper()
	got, now, e := attach.Take(net, was, l...)
	what := named(net, was, l)
	check(t, "error of "+what, e, api.OK)
	if !slices.Equal(got, wanted) {
		t.Errorf("%s: %v are taken, wanted %v", what, got, wanted)
	}
	if !maps.Equal(now, paid) {
		t.Errorf("%s: so far %v, wanted %v", what, now, paid)
	}
}

// checkRefused fails the test, if Take has another error, or anything beside it.
func checkRefused(t *testing.T, net api.Cents, was attach.Paid, l []api.Order, wanted api.Errno) {
	t.Helper()
	got, now, e := attach.Take(net, was, l...)
	what := named(net, was, l)
	check(t, "error of "+what, e, wanted)
	check(t, "what stands beside the error of "+what, len(got)+len(now), 0)
}

// items are some of these codes and amounts, by turns.
func items(l ...any) []api.Item {
	var told []api.Item
	for i := 0; i < len(l); i += 2 {
		told = append(told, api.Item{Code: l[i].(string), Cents: api.Cents(l[i+1].(int))})
	}
	return told
}

// fixed is an order of an amount a period.
func fixed(code string, rank int, c api.Cents) api.Order {
	return api.Order{Code: code, Rank: rank, Fixed: c}
}

// many are so many right orders of different codes, a cent each.
func many(n int) []api.Order {
	var l []api.Order
	for i := range n {
		l = append(l, fixed(fmt.Sprint("n", i), i%100, 1))
	}
	return l
}

// isName is as chapter 8 says.
func isName(s string) bool {
	return len(s) >= 1 && len(s) <= 32 && s != "-" && strings.Trim(s, "abcdefghijklmnopqrstuvwxyz0123456789._-") == ""
}

// isBetween tells whether a number is from one to another.
func isBetween(n, least, greatest int64) bool { return least <= n && n <= greatest }

// isAmount tells whether an amount is from 0 to 2^50.
func isAmount(c api.Cents) bool { return isBetween(int64(c), 0, 1<<50) }

// checkByWords is what Check is to tell.
func checkByWords(l []api.Order) api.Errno {
	if len(l) > 64 {
		return api.ErrMany
	}
	for i, o := range l {
		if !isName(o.Code) {
			return api.ErrName
		}
		if !isBetween(int64(o.Rank), 0, 99) || !isBetween(int64(o.Rate), 0, 1000000) || !isAmount(o.Fixed) || !isAmount(o.Protect) || !isAmount(o.Total) {
			return api.ErrRange
		}
		if slices.ContainsFunc(l[:i], func(elder api.Order) bool { return elder.Code == o.Code }) {
			return api.ErrTwice
		}
	}
	return api.OK
}

// isServedAhead tells whether an order is served ahead of another one, of two that aren't alike in Rank and Code.
func isServedAhead(a, b api.Order) bool {
	return a.Rank < b.Rank || a.Rank == b.Rank && slices.Compare([]byte(a.Code), []byte(b.Code)) < 0
}

// servedByWords are orders as they are served: each put behind all that aren't served behind it.
func servedByWords(l []api.Order) []api.Order {
	var served []api.Order
	for _, o := range l {
		place := len(served)
		for place > 0 && isServedAhead(o, served[place-1]) {
			place--
		}
		served = slices.Insert(served, place, o)
	}
	return served
}

// leftByWords is what Left is to tell, reckoned without a limit.
func leftByWords(was attach.Paid, o api.Order) api.Cents {
	if o.Total == 0 {
		return most
	}
	left := big.NewInt(int64(o.Total))
	if taken := was[o.Code]; taken > 0 {
		left.Sub(left, big.NewInt(int64(taken)))
	}
	if left.Sign() < 0 {
		return 0
	}
	if left.Cmp(big.NewInt(1<<50)) > 0 {
		return most
	}
	return api.Cents(left.Int64())
}

// wantsByWords is what an order wants of a whole net.
func wantsByWords(net api.Cents, o api.Order) api.Cents {
	if o.Fixed != 0 {
		return o.Fixed
	}
	if net < 0 {
		return 0
	}
	n := new(big.Int).Mul(big.NewInt(int64(net)), big.NewInt(int64(o.Rate)))
	n.Add(n, big.NewInt(500000))
	return api.Cents(n.Quo(n, big.NewInt(1000000)).Int64())
}

// takeByWords is what Take is to tell.
func takeByWords(net api.Cents, was attach.Paid, l []api.Order) ([]api.Item, attach.Paid, api.Errno) {
	if !isBetween(int64(net), -1<<50, 1<<50) {
		return nil, nil, api.ErrRange
	}
	if e := checkByWords(l); e != api.OK {
		return nil, nil, e
	}
	now := attach.Paid{}
	for code, sum := range was {
		now[code] = sum
	}
	left := net
	var taken []api.Item
	for _, o := range servedByWords(l) {
		if !isAmount(was[o.Code]) {
			return nil, nil, api.ErrRange
		}
		c := slices.Min([]api.Cents{wantsByWords(net, o), leftByWords(was, o), left - o.Protect})
		if c < 0 {
			c = 0
		}
		left -= c
		now[o.Code] = was[o.Code] + c
		if now[o.Code] > 1<<50 {
			return nil, nil, api.ErrOverflow
		}
		taken = append(taken, api.Item{Code: o.Code, Cents: c})
	}
	return slices.DeleteFunc(taken, func(i api.Item) bool { return i.Cents == 0 }), now, api.OK
}

// someAmount is one from 0 on, below a bound and of any size, or, if it may be wrong, rarely one at the limits or beyond them.
func someAmount(r *rand.Rand, bits int, mayBeWrong bool) api.Cents {
	if mayBeWrong {
		switch r.Intn(50) {
		case 0:
			return most + api.Cents(r.Intn(5)-2)
		case 1:
			return []api.Cents{lowest, highest, -1, lowest + 1, highest - 1, -most}[r.Intn(6)]
		}
	}
	return api.Cents(r.Int63n(1 << (1 + r.Intn(bits))))
}

// someCode is one of some; if it may be wrong, rarely no name.
func someCode(r *rand.Rand, mayBeWrong bool) string {
	if mayBeWrong && r.Intn(80) == 0 {
		return []string{"", "-", "A", "a b", "a:", "\xff", strings.Repeat("x", 33)}[r.Intn(7)]
	}
	return []string{"a", "b", "aa", "a-", "a.", "b0", "c", "d", "_", "e", "f", "g"}[r.Intn(12)]
}

// someOrder is one of amounts below so many bits; if it may be wrong, rarely with something that isn't right.
func someOrder(r *rand.Rand, bits int, mayBeWrong bool) api.Order {
	o := api.Order{Code: someCode(r, mayBeWrong), Rank: r.Intn(4), Rate: []api.Rate{0, 1, 500000, one, api.Rate(r.Intn(1000001)), api.Rate(r.Intn(101) * 10000)}[r.Intn(6)]}
	for _, c := range []*api.Cents{&o.Fixed, &o.Protect, &o.Total} {
		if r.Intn(2) == 0 {
			*c = someAmount(r, bits, mayBeWrong)
		}
	}
	if mayBeWrong && r.Intn(60) == 0 {
		o.Rank = []int{-1, 100, 99, lowest, highest}[r.Intn(5)]
	}
	if mayBeWrong && r.Intn(60) == 0 {
		o.Rate = []api.Rate{-1, one + 1, lowest, highest}[r.Intn(4)]
	}
	return o
}

// someOrders are some; right ones are of different codes.
func someOrders(r *rand.Rand, bits int, mayBeWrong bool) []api.Order {
	var l []api.Order
	for range r.Intn(6) {
		o := someOrder(r, bits, mayBeWrong)
		isAlike := func(elder api.Order) bool { return elder.Code == o.Code }
		if mayBeWrong && r.Intn(8) == 0 || !slices.ContainsFunc(l, isAlike) {
			l = append(l, o)
		}
	}
	return l
}

// somePaid is what was taken so far of some codes; if it may be wrong, sometimes nearly all that may be.
func somePaid(r *rand.Rand, bits int, mayBeWrong bool) attach.Paid {
	was := attach.Paid{}
	for range r.Intn(6) {
		was[someCode(r, mayBeWrong)] = someAmount(r, bits, mayBeWrong)
	}
	if mayBeWrong && r.Intn(8) == 0 {
		was[someCode(r, false)] = most - api.Cents(r.Intn(20))
	}
	return was
}
