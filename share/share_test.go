package share_test

import (
	"fmt"
	"math"
	"math/big"
	"math/rand"
	"slices"
	"testing"

	"wagebook/api"
	"wagebook/share"
)

const (
	most       = 1 << 50
	mostWeight = int64(most)
	lowest     = int64(math.MinInt64)
	highest    = int64(math.MaxInt64)
)

// check fails the test, if a call's amount and error are others than were wanted.
func check(t *testing.T, what string, got api.Cents, e api.Errno, wanted api.Cents, wantedE api.Errno) {
	t.Helper()
	if got != wanted || e != wantedE {
		t.Errorf("%s: %d, error %d; wanted %d, error %d", what, got, e, wanted, wantedE)
	}
}

// checkSplit fails the test, if Split's parts are others than were wanted.
func checkSplit(t *testing.T, total api.Cents, weights []int64, wanted []api.Cents) {
	t.Helper()
	got, e := share.Split(total, weights...)
	if e != api.OK || !slices.Equal(got, wanted) {
		t.Errorf("Split(%d, %v): %v, error %d; wanted %v", total, weights, got, e, wanted)
	}
}

// same is n weights alike.
func same(n int, weight int64) []int64 {
	return slices.Repeat([]int64{weight}, n)
}

// exactly is a * b / c, without a limit.
func exactly(a, b, c int64) *big.Rat {
	product := new(big.Int).Mul(big.NewInt(a), big.NewInt(b))
	return new(big.Rat).SetFrac(product, big.NewInt(c))
}

// sumOf is the sum of weights or parts.
func sumOf[T int64 | api.Cents](l []T) int64 {
	var sum int64
	for _, n := range l {
		sum += int64(n)
	}
	return sum
}

// byWords is Split by the chapter's words: cent by cent to the greatest rest that has none yet.
func byWords(total api.Cents, weights []int64) []api.Cents {
	sign := api.Cents(1)
	if total < 0 {
		sign, total = -1, -total
	}
	sum := sumOf(weights)
	parts := make([]api.Cents, len(weights))
	rests := make([]*big.Rat, len(weights))
	for i, w := range weights {
		exact := exactly(int64(total), w, sum)
		whole := new(big.Int).Quo(exact.Num(), exact.Denom())
		parts[i] = api.Cents(whole.Int64())
		rests[i] = new(big.Rat).Sub(exact, new(big.Rat).SetInt(whole))
	}
	for left := int64(total) - sumOf(parts); left > 0; left-- {
		best := -1
		for i, rest := range rests {
			if rest != nil && (best < 0 || rest.Cmp(rests[best]) > 0) {
				best = i
			}
		}
		parts[best]++
		rests[best] = nil
	}
	for i := range parts {
		parts[i] *= sign
	}
	return parts
}

// chosen is any amount, of any number of digits.
func chosen(r *rand.Rand) api.Cents {
	c := api.Cents(r.Int63n(most+1) >> r.Intn(51))
	if r.Intn(2) == 0 {
		return -c
	}
	return c
}

// cases calls f with amounts and right weights, small ones, those at the limits, and others.
func cases(f func(total api.Cents, weights []int64)) {
	for total := api.Cents(-12); total <= 12; total++ {
		for a := range int64(5) {
			for b := range int64(5) {
				for c := range int64(5) {
					if a+b+c > 0 {
						f(total, []int64{a, b, c})
					}
				}
			}
		}
	}
	for _, total := range []api.Cents{-most, 1 - most, -1, 0, 1, 63, 64, 65, most - 1, most} {
		f(total, same(64, mostWeight))
		f(total, same(64, 1))
		f(total, same(63, mostWeight))
		f(total, append(same(63, mostWeight), mostWeight-1))
		f(total, append(same(63, mostWeight-1), mostWeight))
		f(total, append(same(63, 0), 1))
		f(total, []int64{mostWeight, 1})
		f(total, []int64{1, mostWeight})
		f(total, []int64{0, mostWeight, 0})
	}
	r := rand.New(rand.NewSource(3))
	for range 3000 {
		weights := make([]int64, 1+r.Intn(64))
		bits := r.Intn(51)
		for i := range weights {
			weights[i] = r.Int63n(1<<bits + 1)
		}
		weights[r.Intn(len(weights))]++ // so that one at least is above 0
		for i := range weights {
			weights[i] = min(weights[i], mostWeight)
		}
		f(chosen(r), weights)
	}
}

func TestP3_1Split(t *testing.T) {
	for _, x := range []struct {
		total   api.Cents
		weights []int64
		wanted  []api.Cents
	}{
		{100, []int64{1, 1, 1}, []api.Cents{34, 33, 33}},
		{-100, []int64{1, 1, 1}, []api.Cents{-34, -33, -33}},
		{5, []int64{1, 0, 3}, []api.Cents{1, 0, 4}},
		{-5, []int64{1, 0, 3}, []api.Cents{-1, 0, -4}},
		{0, []int64{1, 2}, []api.Cents{0, 0}},
		{7, []int64{9}, []api.Cents{7}},
		{-7, []int64{mostWeight}, []api.Cents{-7}},
		{1, []int64{1, 1}, []api.Cents{1, 0}},
		{-1, []int64{1, 1}, []api.Cents{-1, 0}},
		{1, []int64{0, 1, 1}, []api.Cents{0, 1, 0}},
		{1, []int64{1, 2}, []api.Cents{0, 1}},
		{1, []int64{2, 1}, []api.Cents{1, 0}},
		{2, []int64{1, 1, 1}, []api.Cents{1, 1, 0}},
		{3, []int64{1, 2, 1, 2}, []api.Cents{1, 1, 0, 1}},
		{10, []int64{1, 1, 4}, []api.Cents{2, 2, 6}}, // 1.67, 1.67 and 6.67: the last of alike ones has none
		{10, []int64{7, 7, 1}, []api.Cents{5, 5, 0}}, // 4.67, 4.67 and 0.67
		{10, []int64{1, 7, 7}, []api.Cents{1, 5, 4}},
		{most, []int64{mostWeight, mostWeight}, []api.Cents{most / 2, most / 2}},
		{most - 1, []int64{mostWeight, mostWeight}, []api.Cents{most / 2, most/2 - 1}},
		{1 - most, []int64{mostWeight, mostWeight}, []api.Cents{-most / 2, 1 - most/2}},
		{most, []int64{1, mostWeight}, []api.Cents{1, most - 1}},
		{-most, []int64{mostWeight, 1}, []api.Cents{1 - most, -1}},
	} {
		checkSplit(t, x.total, x.weights, x.wanted)
	}
	checkSplit(t, most, same(64, mostWeight), slices.Repeat([]api.Cents{most / 64}, 64))
	checkSplit(t, -63, same(64, 1), append(slices.Repeat([]api.Cents{-1}, 63), 0))
}

func TestP3_1SplitByWords(t *testing.T) {
	cases(func(total api.Cents, weights []int64) {
		checkSplit(t, total, weights, byWords(total, weights))
	})
}

func TestP3_1SplitErrors(t *testing.T) {
	for _, x := range []struct {
		total   api.Cents
		weights []int64
		e       api.Errno
	}{
		{most + 1, []int64{1}, api.ErrOverflow},
		{-most - 1, []int64{1}, api.ErrOverflow},
		{api.Cents(lowest), nil, api.ErrOverflow},
		{api.Cents(highest), same(65, -1), api.ErrOverflow},
		{most + 1, []int64{-1}, api.ErrOverflow},
		{most + 1, []int64{0}, api.ErrOverflow},
		{1, nil, api.ErrEmpty},
		{0, []int64{}, api.ErrEmpty},
		{1, same(65, 1), api.ErrMany},
		{1, same(65, 0), api.ErrMany},
		{1, same(65, -1), api.ErrMany},
		{1, same(5000, mostWeight+1), api.ErrMany},
		{1, []int64{-1}, api.ErrRange},
		{1, []int64{1, -1}, api.ErrRange},
		{1, []int64{-1, 1, 0}, api.ErrRange},
		{1, []int64{0, 0, -1}, api.ErrRange},
		{1, []int64{mostWeight + 1}, api.ErrRange},
		{1, []int64{1, mostWeight + 1}, api.ErrRange},
		{1, []int64{lowest}, api.ErrRange},
		{1, []int64{highest, highest, 2}, api.ErrRange},
		{1, []int64{lowest, lowest}, api.ErrRange}, // their sum wraps round to 0
		{1, append(same(63, 1), -1), api.ErrRange},
		{1, []int64{0}, api.ErrZero},
		{0, []int64{0, 0}, api.ErrZero},
		{most, same(64, 0), api.ErrZero},
	} {
		got, e := share.Split(x.total, x.weights...)
		if len(got) != 0 || e != x.e {
			t.Errorf("Split(%d, %d weights): %v, error %d; wanted error %d", x.total, len(x.weights), got, e, x.e)
		}
	}
}

func TestP3_1UpTo(t *testing.T) {
	for _, x := range []struct {
		total  api.Cents
		at, of int64
		wanted api.Cents
	}{
		{5, 1, 2, 3},
		{-5, 1, 2, -3},
		{1, 1, 2, 1},
		{-1, 1, 2, -1},
		{1, 0, 1, 0},
		{-7, 0, 9, 0},
		{-7, 9, 9, -7},
		{0, 3, 4, 0},
		{100, 1, 3, 33},
		{100, 2, 3, 67},
		{-100, 1, 3, -33},
		{-100, 2, 3, -67},
		{10, 1, 20, 1}, // 0.5
		{9, 1, 20, 0},  // 0.45
		{1, mostWeight / 2, mostWeight, 1},
		{1, mostWeight/2 - 1, mostWeight, 0},
		{-1, mostWeight / 2, mostWeight, -1},
		{-1, mostWeight/2 - 1, mostWeight, 0},
		{1, mostWeight / 2, mostWeight - 1, 1},
		{1, mostWeight/2 - 1, mostWeight - 1, 0},
		{most, mostWeight, mostWeight, most},
		{-most, mostWeight, mostWeight, -most},
		{most, mostWeight - 1, mostWeight, most - 1},
		{most, 1, mostWeight, 1},
		{most, 1, 1, most},
		{most - 1, 1, 2, most / 2},
		{1 - most, 1, 2, -most / 2},
	} {
		got, e := share.UpTo(x.total, x.at, x.of)
		check(t, fmt.Sprintf("UpTo(%d, %d, %d)", x.total, x.at, x.of), got, e, x.wanted, api.OK)
	}
}

// checkUpTo holds UpTo against the chapter's words: at most half a cent away from the exact part, and if it is half a cent, the one farther from 0.
func checkUpTo(t *testing.T, total api.Cents, at, of int64) {
	t.Helper()
	got, e := share.UpTo(total, at, of)
	exact := exactly(int64(total), at, of)
	away := new(big.Rat).Sub(new(big.Rat).SetInt64(int64(got)), exact)
	if total < 0 {
		away.Neg(away)
	}
	half := big.NewRat(1, 2)
	if e != api.OK || away.Cmp(half) > 0 || away.Cmp(new(big.Rat).Neg(half)) <= 0 {
		t.Errorf("UpTo(%d, %d, %d): %d, error %d", total, at, of, got, e)
	}
}

func TestP3_1UpToByWords(t *testing.T) {
	for total := api.Cents(-25); total <= 25; total++ {
		for of := int64(1); of <= 12; of++ {
			for at := int64(0); at <= of; at++ {
				checkUpTo(t, total, at, of)
			}
		}
	}
	r := rand.New(rand.NewSource(3))
	for range 20000 {
		of := 1 + r.Int63n(mostWeight)>>r.Intn(50)
		checkUpTo(t, chosen(r), r.Int63n(of+1), of)
	}
}

func TestP3_1UpToErrors(t *testing.T) {
	for _, x := range []struct {
		total  api.Cents
		at, of int64
		e      api.Errno
	}{
		{most + 1, 1, 1, api.ErrOverflow},
		{-most - 1, 1, 1, api.ErrOverflow},
		{most + 1, 0, 0, api.ErrOverflow},
		{api.Cents(lowest), 0, -1, api.ErrOverflow},
		{api.Cents(highest), 2, 1, api.ErrOverflow},
		{1, 0, 0, api.ErrZero},
		{1, -1, 0, api.ErrZero},
		{most, 1, 0, api.ErrZero},
		{1, 0, -1, api.ErrRange},
		{1, -2, -1, api.ErrRange},
		{1, 0, lowest, api.ErrRange},
		{1, 0, mostWeight + 1, api.ErrRange},
		{1, 1, mostWeight + 1, api.ErrRange},
		{1, 1, highest, api.ErrRange},
		{1, -1, 1, api.ErrRange},
		{1, 2, 1, api.ErrRange},
		{0, lowest, 1, api.ErrRange},
		{0, highest, mostWeight, api.ErrRange},
		{0, mostWeight + 1, mostWeight, api.ErrRange},
	} {
		got, e := share.UpTo(x.total, x.at, x.of)
		check(t, fmt.Sprintf("UpTo(%d, %d, %d)", x.total, x.at, x.of), got, e, 0, x.e)
	}
}

func TestP3_1Between(t *testing.T) {
	for _, x := range []struct {
		total        api.Cents
		from, to, of int64
		wanted       api.Cents
	}{
		{5, 0, 1, 2, 3},
		{5, 1, 2, 2, 2},
		{-5, 0, 1, 2, -3},
		{-5, 1, 2, 2, -2},
		{5, 1, 1, 2, 0},
		{5, 0, 0, 2, 0},
		{5, 2, 2, 2, 0},
		{1000, 0, 1, 3, 333},
		{1000, 1, 2, 3, 334},
		{1000, 2, 3, 3, 333},
		{most, 0, mostWeight, mostWeight, most},
		{-most, 0, mostWeight, mostWeight, -most},
		{-most, mostWeight - 1, mostWeight, mostWeight, -1},
		{1, mostWeight/2 - 1, mostWeight / 2, mostWeight, 1},
	} {
		got, e := share.Between(x.total, x.from, x.to, x.of)
		check(t, fmt.Sprintf("Between(%d, %d, %d, %d)", x.total, x.from, x.to, x.of), got, e, x.wanted, api.OK)
	}
}

func TestP3_1BetweenErrors(t *testing.T) {
	for _, x := range []struct {
		total        api.Cents
		from, to, of int64
		e            api.Errno
	}{
		{most + 1, 0, 1, 1, api.ErrOverflow},
		{-most - 1, 2, 1, 0, api.ErrOverflow},
		{api.Cents(lowest), -1, -2, -1, api.ErrOverflow},
		{1, 0, 0, 0, api.ErrZero},
		{1, 2, 1, 0, api.ErrZero},
		{1, 2, 1, -1, api.ErrRange},
		{1, 2, 1, lowest, api.ErrRange},
		{1, 0, 1, mostWeight + 1, api.ErrRange},
		{1, 1, 0, highest, api.ErrRange},
		{1, -1, 1, 3, api.ErrRange},
		{1, 0, -1, 3, api.ErrRange},
		{1, 3, -1, 3, api.ErrRange},
		{1, 4, 3, 3, api.ErrRange},
		{1, 4, 5, 3, api.ErrRange},
		{1, 0, 4, 3, api.ErrRange},
		{1, 4, 0, 3, api.ErrRange},
		{1, lowest, highest, 3, api.ErrRange},
		{1, highest, lowest, mostWeight, api.ErrRange},
		{1, 2, 1, 3, api.ErrOrder},
		{0, 3, 0, 3, api.ErrOrder},
		{most, mostWeight, mostWeight - 1, mostWeight, api.ErrOrder},
	} {
		got, e := share.Between(x.total, x.from, x.to, x.of)
		check(t, fmt.Sprintf("Between(%d, %d, %d, %d)", x.total, x.from, x.to, x.of), got, e, 0, x.e)
	}
}

// checkItems fails the test, if Items' lists are others than were wanted.
func checkItems(t *testing.T, l []api.Item, weights []int64, wanted [][]api.Item) {
	t.Helper()
	got, e := share.Items(l, weights...)
	if e != api.OK || !slices.EqualFunc(got, wanted, slices.Equal[[]api.Item]) {
		t.Errorf("Items(%v, %v): %v, error %d; wanted %v", l, weights, got, e, wanted)
	}
}

func TestP3_1Items(t *testing.T) {
	checkItems(t, []api.Item{{Code: "a", Cents: 7}}, []int64{1, 1}, [][]api.Item{{{Code: "a", Cents: 4}}, {{Code: "a", Cents: 3}}})
	checkItems(t, []api.Item{{Code: "b", Cents: 7}, {Code: "a", Cents: -100}, {Code: "b", Cents: 0}, {Code: "", Cents: 1}}, []int64{1, 0, 2}, [][]api.Item{
		{{Code: "b", Cents: 2}, {Code: "a", Cents: -33}, {Code: "b", Cents: 0}, {Code: "", Cents: 0}},
		{{Code: "b", Cents: 0}, {Code: "a", Cents: 0}, {Code: "b", Cents: 0}, {Code: "", Cents: 0}},
		{{Code: "b", Cents: 5}, {Code: "a", Cents: -67}, {Code: "b", Cents: 0}, {Code: "", Cents: 1}},
	})
	checkItems(t, []api.Item{{Code: "a", Cents: most}, {Code: "b", Cents: -most}}, []int64{mostWeight}, [][]api.Item{{{Code: "a", Cents: most}, {Code: "b", Cents: -most}}})
	checkItems(t, nil, []int64{1, 0}, [][]api.Item{{}, {}})
	checkItems(t, []api.Item{}, []int64{1}, [][]api.Item{{}})
}

func TestP3_1ItemsAtTheLimit(t *testing.T) {
	l := make([]api.Item, 64)
	for i := range l {
		l[i] = api.Item{Code: fmt.Sprint(i), Cents: api.Cents(most - i)}
	}
	weights := same(64, mostWeight)
	got, e := share.Items(l, weights...)
	if e != api.OK || len(got) != 64 {
		t.Fatalf("%d lists, error %d", len(got), e)
	}
	for place, item := range l {
		for i, part := range byWords(item.Cents, weights) {
			if len(got[i]) != 64 || got[i][place] != (api.Item{Code: item.Code, Cents: part}) {
				t.Fatalf("list %d, item %d: %v", i, place, got[i])
			}
		}
	}
}

func TestP3_1ItemsErrors(t *testing.T) {
	tooMuch := []api.Item{{Code: "a", Cents: 1}, {Code: "b", Cents: most + 1}}
	tooMany := slices.Repeat(tooMuch, 33)[:65]
	for _, x := range []struct {
		l       []api.Item
		weights []int64
		e       api.Errno
	}{
		{nil, nil, api.ErrEmpty},
		{tooMuch, nil, api.ErrEmpty},
		{tooMany, same(65, -1), api.ErrMany},
		{tooMuch, same(65, 0), api.ErrMany},
		{nil, same(65, 1), api.ErrMany},
		{tooMany, []int64{1, -1}, api.ErrRange},
		{tooMuch, []int64{mostWeight + 1}, api.ErrRange},
		{nil, []int64{0, 0, -1}, api.ErrRange},
		{tooMany, []int64{0, 0}, api.ErrZero},
		{tooMuch, same(64, 0), api.ErrZero},
		{nil, []int64{0}, api.ErrZero},
		{tooMany, []int64{1}, api.ErrMany},
		{make([]api.Item, 65), []int64{1}, api.ErrMany},
		{tooMuch, []int64{1}, api.ErrOverflow},
		{tooMany[:64], same(64, 1), api.ErrOverflow},
		{[]api.Item{{Code: "a", Cents: -most - 1}}, []int64{1}, api.ErrOverflow},
		{[]api.Item{{Code: "a", Cents: api.Cents(lowest)}, {Code: "b", Cents: 1}}, []int64{1}, api.ErrOverflow},
	} {
		got, e := share.Items(x.l, x.weights...)
		if len(got) != 0 || e != x.e {
			t.Errorf("Items of %d items by %d weights: %v, error %d; wanted error %d", len(x.l), len(x.weights), got, e, x.e)
		}
	}
}

func TestP3_2AddsUp(t *testing.T) {
	one := big.NewRat(1, 1)
	cases(func(total api.Cents, weights []int64) {
		parts, e := share.Split(total, weights...)
		if e != api.OK || len(parts) != len(weights) || sumOf(parts) != int64(total) {
			t.Errorf("Split(%d, %v): %v, error %d", total, weights, parts, e)
			return
		}
		sum := sumOf(weights)
		for i, w := range weights {
			away := exactly(int64(total), w, sum)
			away.Sub(away, new(big.Rat).SetInt64(int64(parts[i])))
			if away.Abs(away).Cmp(one) >= 0 {
				t.Errorf("Split(%d, %v): %v: part %d is a cent away", total, weights, parts, i)
			}
		}
	})
}

func TestP3_2GreaterWeights(t *testing.T) {
	cases(func(total api.Cents, weights []int64) {
		if total < 0 {
			return
		}
		parts, e := share.Split(total, weights...)
		if e != api.OK || len(parts) != len(weights) {
			t.Fatalf("Split(%d, %v): %v, error %d", total, weights, parts, e)
		}
		for i, v := range weights {
			for j, w := range weights {
				if v > w && parts[i] < parts[j] {
					t.Errorf("Split(%d, %v): %v: weight %d has less than weight %d", total, weights, parts, i, j)
				}
			}
		}
	})
}

func TestP3_2WeightsTimesANumber(t *testing.T) {
	cases(func(total api.Cents, weights []int64) {
		wanted, e := share.Split(total, weights...)
		if e != api.OK {
			t.Fatalf("Split(%d, %v): error %d", total, weights, e)
		}
		for _, times := range []int64{2, 3, 10, mostWeight / slices.Max(weights)} {
			if slices.Max(weights) > mostWeight/times {
				continue
			}
			by := slices.Clone(weights)
			for i := range by {
				by[i] *= times
			}
			checkSplit(t, total, by, wanted)
		}
	})
}

func TestP3_3Cuts(t *testing.T) {
	cut := func(total api.Cents, a, of int64) {
		whole, e := share.UpTo(total, of, of)
		check(t, fmt.Sprintf("UpTo(%d, %d, %d)", total, of, of), whole, e, total, api.OK)
		head, e1 := share.Between(total, 0, a, of)
		tail, e2 := share.Between(total, a, of, of)
		if head+tail != total || e1 != api.OK || e2 != api.OK {
			t.Errorf("%d cut at %d of %d: %d and %d, errors %d and %d", total, a, of, head, tail, e1, e2)
		}
		upTo, e := share.UpTo(total, a, of)
		check(t, fmt.Sprintf("Between(%d, 0, %d, %d)", total, a, of), head, e1, upTo, e)
	}
	for total := api.Cents(-15); total <= 15; total++ {
		for of := int64(1); of <= 31; of++ {
			for a := int64(0); a <= of; a++ {
				cut(total, a, of)
			}
		}
	}
	for _, total := range []api.Cents{-most, 1 - most, -1, 0, 1, most - 1, most} {
		for _, of := range []int64{1, 2, 3, 366, mostWeight - 1, mostWeight} {
			for _, a := range []int64{0, 1, of / 3, of / 2, of - of/2, of - 1, of} {
				cut(total, a, of)
			}
		}
	}
}

func TestP3_3ManyCuts(t *testing.T) {
	for _, total := range []api.Cents{most, -most, 100001, -77, 1} {
		var sum api.Cents
		for day := range int64(366) {
			piece, e := share.Between(total, day, day+1, 366)
			if e != api.OK {
				t.Fatalf("day %d: error %d", day, e)
			}
			sum += piece
		}
		if sum != total {
			t.Errorf("the days of %d sum to %d", total, sum)
		}
	}
}

// TestMemory: what is handed in stays as it is, its spare room too, and no two lists are one memory.
func TestMemory(t *testing.T) {
	room := []int64{3, 1, 2, 99, 98}
	items := []api.Item{{Code: "a", Cents: 7}, {Code: "b", Cents: -7}, {Code: "spare", Cents: 1}}
	roomBefore, itemsBefore := slices.Clone(room), slices.Clone(items)
	first, _ := share.Split(10, room[:3]...)
	second, _ := share.Split(10, room[:3]...)
	lists, _ := share.Items(items[:2], room[:3]...)
	again, _ := share.Items(items[:2], room[:3]...)
	if len(first) != 3 || len(lists) != 3 || len(lists[0]) != 2 {
		t.Fatal(first, lists)
	}
	clear(first)
	_ = append(lists[0], api.Item{Code: "behind", Cents: 5})
	clear(lists[0])
	if !slices.Equal(second, []api.Cents{5, 2, 3}) || !slices.Equal(lists[1], again[1]) || !slices.Equal(lists[2], again[2]) || again[0][0].Code != "a" {
		t.Error("two answers share memory", second, lists, again)
	}
	if !slices.Equal(room, roomBefore) || !slices.Equal(items, itemsBefore) {
		t.Error("what was handed in was changed", room, items)
	}
}

// TestP1NoPanic hands each call what is farthest out.
func TestP1NoPanic(t *testing.T) {
	edges := []int64{lowest, lowest + 1, -mostWeight - 1, -mostWeight, -1, 0, 1, 2, mostWeight - 1, mostWeight, mostWeight + 1, highest - 1, highest}
	for _, a := range edges {
		for _, b := range edges {
			for _, c := range edges {
				share.UpTo(api.Cents(a), b, c)
				share.Split(api.Cents(a), b, c)
				share.Items([]api.Item{{Code: "", Cents: api.Cents(a)}}, b, c)
				for _, d := range edges {
					share.Between(api.Cents(a), b, c, d)
				}
			}
		}
	}
}
