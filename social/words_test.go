package social_test

import (
	"fmt"
	"math"
	"math/big"
	"math/rand"
	"slices"
	"strings"
	"testing"

	"wagebook/api"
	"wagebook/social"
)

const (
	most    = api.Cents(1) << 50
	one     = api.Rate(1000000)
	lowest  = math.MinInt64
	highest = math.MaxInt64
)

// check fails the test, if something is another thing than was wanted.
func check[T comparable](t *testing.T, what string, got, wanted T) {
	t.Helper()
	if got != wanted {
		t.Errorf("%s: %v, wanted %v", what, got, wanted)
	}
}

// checkStep fails the test, if a step doesn't come to these sums.
func checkStep(t *testing.T, was social.Sums, s api.Scheme, base api.Cents, wanted social.Sums) {
	t.Helper()
	got, e := social.Step(was, s, base)
	what := fmt.Sprintf("%+v by %+v with %d", was, s, base)
	check(t, "error of "+what, e, api.OK)
	check(t, what, got, wanted)
}

// checkRefused fails the test, if a step has another error, or sums beside it.
func checkRefused(t *testing.T, was social.Sums, s api.Scheme, base api.Cents, wanted api.Errno) {
	t.Helper()
	got, e := social.Step(was, s, base)
	what := fmt.Sprintf("%+v by %+v with %d", was, s, base)
	check(t, "error of "+what, e, wanted)
	check(t, "sums beside it, of "+what, got, social.Sums{})
}

// checkNone fails the test, if All has another error, or anything beside it.
func checkNone(t *testing.T, was map[string]social.Sums, base api.Cents, l []api.Scheme, wanted api.Errno) {
	t.Helper()
	now, workers, firms, e := social.All(was, base, l...)
	what := fmt.Sprintf("%v by %.200s with %d", was, fmt.Sprint(l), base)
	check(t, "error of "+what, e, wanted)
	check(t, "what stands beside it, of "+what, len(now)+len(workers)+len(firms), 0)
}

// scheme is the chapter's of 10% and 12%, up to a ceiling.
func scheme(code string, ceiling api.Cents) api.Scheme {
	return api.Scheme{Code: code, Worker: 100000, Firm: 120000, Ceiling: ceiling}
}

// schemes is so many right schemes of different codes.
func schemes(n int) []api.Scheme {
	var l []api.Scheme
	for i := range n {
		l = append(l, scheme(fmt.Sprint("s", i), 0))
	}
	return l
}

// isName is as chapter 8 says.
func isName(s string) bool {
	return len(s) >= 1 && len(s) <= 32 && s != "-" && strings.Trim(s, "abcdefghijklmnopqrstuvwxyz0123456789._-") == ""
}

// isBetween tells whether a number is from one to another.
func isBetween(n, least, greatest int64) bool { return least <= n && n <= greatest }

// areRight tells whether sums are right.
func areRight(s social.Sums) bool {
	return isBetween(int64(s.Base), -1<<50, 1<<50) && isBetween(int64(s.Insured), 0, 1<<50) && isBetween(int64(s.Worker), 0, 1<<50) && isBetween(int64(s.Firm), 0, 1<<50)
}

// hasRightNumbers tells whether all of a scheme but its Code is right.
func hasRightNumbers(s api.Scheme) bool {
	return isBetween(int64(s.Worker), 0, 1000000) && isBetween(int64(s.Firm), 0, 1000000) && isBetween(int64(s.Ceiling), 0, 1<<50)
}

// stepByWords is what Step is to tell, reckoned without a limit.
func stepByWords(was social.Sums, s api.Scheme, base api.Cents) (social.Sums, api.Errno) {
	if !areRight(was) {
		return social.Sums{}, api.ErrRange
	}
	if !isName(s.Code) {
		return social.Sums{}, api.ErrName
	}
	if !hasRightNumbers(s) || !isBetween(int64(base), -1<<50, 1<<50) {
		return social.Sums{}, api.ErrRange
	}
	all := was.Base + base // of two that fit
	insured := all
	if s.Ceiling != 0 && s.Ceiling < all {
		insured = s.Ceiling
	}
	insured -= was.Insured
	if insured < 0 {
		insured = 0
	}
	now := social.Sums{Base: all, Insured: was.Insured + insured, Worker: was.Worker + partByWords(insured, s.Worker), Firm: was.Firm + partByWords(insured, s.Firm)}
	if !areRight(now) {
		return social.Sums{}, api.ErrOverflow
	}
	return now, api.OK
}

// partByWords is a part of an amount from 0 on, the nearest, of two the greater one.
func partByWords(c api.Cents, r api.Rate) api.Cents {
	n := new(big.Int).Mul(big.NewInt(int64(c)), big.NewInt(int64(r)))
	n.Add(n, big.NewInt(500000))
	return api.Cents(n.Quo(n, big.NewInt(1000000)).Int64())
}

// allByWords is what All is to tell.
func allByWords(was map[string]social.Sums, base api.Cents, l []api.Scheme) (map[string]social.Sums, []api.Item, []api.Item, api.Errno) {
	if len(l) > 64 {
		return nil, nil, nil, api.ErrMany
	}
	now := map[string]social.Sums{}
	for code, s := range was {
		now[code] = s
	}
	var workers, firms []api.Item
	for i, s := range l {
		for _, elder := range l[:i] {
			if elder.Code == s.Code {
				return nil, nil, nil, api.ErrTwice
			}
		}
		behind, e := stepByWords(now[s.Code], s, base)
		if e != api.OK {
			return nil, nil, nil, e
		}
		workers = append(workers, api.Item{Code: s.Code, Cents: behind.Worker - now[s.Code].Worker})
		firms = append(firms, api.Item{Code: s.Code, Cents: behind.Firm - now[s.Code].Firm})
		now[s.Code] = behind
	}
	isNothing := func(i api.Item) bool { return i.Cents == 0 }
	return now, slices.DeleteFunc(workers, isNothing), slices.DeleteFunc(firms, isNothing), api.OK
}

// roomByWords is the greatest amount more that a step may insure, as Room's words say it.
func roomByWords(was social.Sums, s api.Scheme) api.Cents {
	if !areRight(was) || !isName(s.Code) || !hasRightNumbers(s) {
		return 0
	}
	if s.Ceiling == 0 {
		return 1<<50 - was.Insured
	}
	if s.Ceiling < was.Insured {
		return 0
	}
	return s.Ceiling - was.Insured
}

// someAmount is one from least to greatest, of any size, or in one case of twelve near these, or any number.
func someAmount(r *rand.Rand, least, greatest api.Cents) api.Cents {
	switch r.Intn(24) {
	case 0:
		return []api.Cents{least, greatest}[r.Intn(2)] + api.Cents(r.Intn(5)-2)
	case 1:
		return []api.Cents{lowest, highest, most, -most, lowest + 1, highest - 1}[r.Intn(6)]
	}
	c := api.Cents(r.Int63n(1 << (1 + r.Intn(50))))
	if least < 0 && r.Intn(3) == 0 {
		return -c
	}
	return c
}

// someRate is mostly one from nothing to all.
func someRate(r *rand.Rand) api.Rate {
	return []api.Rate{0, 0, 1, 499999, 500000, 500001, 999999, one, one + 1, -1, lowest, highest, api.Rate(r.Intn(1000001)), api.Rate(r.Intn(101) * 10000), 100000, 120000}[r.Intn(16)]
}

// rightRate is one from nothing to all.
func rightRate(r *rand.Rand) api.Rate {
	return []api.Rate{0, 1, 500000, one, api.Rate(r.Intn(1000001)), api.Rate(r.Intn(101) * 10000)}[r.Intn(6)]
}

// someSums is mostly right sums.
func someSums(r *rand.Rand) social.Sums {
	s := social.Sums{Base: someAmount(r, -most, most)}
	if r.Intn(3) > 0 {
		s.Insured, s.Worker, s.Firm = someAmount(r, 0, most), someAmount(r, 0, most), someAmount(r, 0, most)
	}
	return s
}

// someScheme is mostly a right scheme.
func someScheme(r *rand.Rand) api.Scheme {
	s := api.Scheme{Code: string(rune('a' + r.Intn(8))), Worker: rightRate(r), Firm: rightRate(r)}
	if r.Intn(8) == 0 {
		s.Worker, s.Firm = someRate(r), someRate(r)
	}
	if r.Intn(3) > 0 {
		s.Ceiling = someAmount(r, 0, most)
	}
	if r.Intn(20) == 0 {
		s.Code = []string{"", "-", "A", "a b", "a:", "\xff", strings.Repeat("x", 33)}[r.Intn(7)]
	}
	return s
}
