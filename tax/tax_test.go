package tax_test

import (
	"fmt"
	"math/rand"
	"slices"
	"testing"

	"wagebook/api"
	"wagebook/tax"
)

func TestP24_1ToDate(t *testing.T) {
	for _, x := range []struct {
		base      api.Cents
		index, of int
		c         api.Card
		wanted    api.Cents
	}{
		{100000, 1, 12, example(), 18000},
		{200000, 2, 12, example(), 36000},
		{100000, 2, 12, example(), 16000},
		{60000, 1, 12, three(), 10000}, // the Extra isn't part of it
		{720000, 12, 12, three(), 120000},
		{0, 1, 12, example(), 0},
		{-5, 1, 12, example(), 0},
		{-most, 400, 400, card(most, most, 0, 1000000), 0},
		{10000, 1, 12, example(), 0}, // as much as is free
		{10002, 1, 12, example(), 0}, // 0.4
		{10003, 1, 12, example(), 1}, // 0.6
		{119999, 12, 12, example(), 0},
		{120000, 12, 12, example(), 0},
		{120002, 12, 12, example(), 0},
		{120003, 12, 12, example(), 1},
		{1, 1, 1, card(0, 0, 0, 500000), 1}, // half a cent
		{3, 3, 4, card(0, 0, 0, 500000), 2},
		{1, 1, 3, card(1, 0, 0, 1000000), 1}, // two thirds
		{1, 1, 2, card(1, 0, 0, 1000000), 1}, // a half
		{1, 2, 3, card(1, 0, 0, 1000000), 0}, // a third
		{1, 1, 400, card(399, 0, 0, 1000000), 0},
		{1, 1, 2, card(0, 0, 0, 0, 1, 1000000), 1}, // 1 of 2 a year, halved
		{1, 2, 2, card(0, 0, 0, 0, 1, 1000000), 0},
		{10000, 400, 400, api.Card{}, 0},
		{most, 1, 400, api.Card{Bands: []api.Band{}}, 0},
		{most, 1, 1, card(0, 0, 0, 1000000), most},
		{most, 1, 400, card(0, 0, 0, 1000000), most},
		{most, 400, 400, card(0, most, 0, 1000000), most},
		{most, 1, 400, card(most, 0, 0, 1000000), most - most/400 - 1}, // less 2814749767106.56
		{most, 400, 400, card(most, 0, 0, 1000000), 0},
		{most, 400, 400, card(most-1, 0, 0, 1000000), 1},
		{most, 400, 400, card(0, 0, 0, 0, int64(most)-1, 1000000), 1},
		{63, 1, 1, many(64), 20}, // 19.53: of 63 cents none to 62 hundredths
	} {
		what := named(fmt.Sprint(x.base, ", ", x.index, " of ", x.of), x.c)
		check(t, what, amount(tax.ToDate(x.base, x.index, x.of, x.c)), told{c: x.wanted})
		check(t, "by words: "+what, toDateByWords(x.base, x.index, x.of, x.c), told{c: x.wanted})
	}
}

// wrong is cards that aren't right, by the error that is told: the first one, where a card has several.
func wrong() map[api.Errno][]api.Card {
	return map[api.Errno][]api.Card{
		api.ErrRange: {
			card(-1, 0), card(most+1, 0), card(lowest, 0), card(highest, 0),
			card(0, -1), card(0, most+1), card(0, lowest), card(0, highest),
			card(-1, 0, 1, 0), card(0, -1, 1, 0), {Allowance: -1, Bands: many(65).Bands}, {Extra: most + 1, Bands: many(65).Bands},
			card(0, 0, 0, -1), card(0, 0, 0, 1000001), card(0, 0, 0, 0, int64(most)+1, 0), card(0, 0, 0, 1000001, 0, 0),
		},
		api.ErrOrder: {card(0, 0, 1, 0), card(0, 0, -1, 0), card(0, 0, 0, 0, 0, 0), card(0, 0, 0, 0, 5, 0, 4, 0), card(0, 0, 1, 1000001)},
		api.ErrMany:  {many(65), {Bands: make([]api.Band, 70)}},
	}
}

func TestP24_1Errors(t *testing.T) {
	for _, x := range [][2]int{{0, 12}, {-1, 12}, {13, 12}, {0, 0}, {1, 0}, {-2, -1}, {1, 401}, {401, 401}, {lowest, highest}, {highest, highest}, {highest, lowest}, {lowest, lowest}} {
		check(t, fmt.Sprint(x), amount(tax.ToDate(5, x[0], x[1], example())), told{e: api.ErrRange})
		check(t, fmt.Sprint(x, " by too many bands"), amount(tax.ToDate(5, x[0], x[1], many(65))), told{e: api.ErrRange}) // ahead of ErrMany
		check(t, fmt.Sprint(x, " by no bands"), amount(tax.ToDate(-5, x[0], x[1], api.Card{})), told{e: api.ErrRange})
	}
	for _, of := range []int{0, -1, 401, lowest, highest} {
		check(t, fmt.Sprint("Single of ", of), amount(tax.Single(5, of, many(65))), told{e: api.ErrRange})
	}
	for _, base := range []api.Cents{most + 1, -most - 1, lowest, highest} {
		for _, c := range []api.Card{example(), {}, many(65)} {
			wanted := told{e: api.ErrRange}
			check(t, named(fmt.Sprint("ToDate of ", base), c), amount(tax.ToDate(base, 1, 12, c)), wanted)
			check(t, named(fmt.Sprint("Yearly of ", base), c), amount(tax.Yearly(base, c)), wanted)
			check(t, named(fmt.Sprint("Single of ", base), c), amount(tax.Single(base, 12, c)), wanted)
		}
	}
	for e, l := range wrong() {
		for _, c := range l {
			check(t, named("ToDate", c), amount(tax.ToDate(-5, 2, 12, c)), told{e: e})
			check(t, named("Yearly", c), amount(tax.Yearly(5, c)), told{e: e})
			check(t, named("Single", c), amount(tax.Single(5, 12, c)), told{e: e})
			check(t, named("ToDate of an amount that doesn't fit", c), amount(tax.ToDate(most+1, 2, 12, c)), told{e: api.ErrRange})
		}
	}
}

func TestP24_1Yearly(t *testing.T) {
	for _, x := range []struct {
		base   api.Cents
		c      api.Card
		wanted api.Cents
	}{
		{720000, three(), 120000}, // 12000.00 less what is free; without the Extra
		{120000, three(), 0},
		{120000 + 100003, three(), 1},
		{-720000, three(), 0},
		{0, api.Card{}, 0},
		{most, card(0, most, 0, 1000000), most},
		{1, card(0, 0, 0, 500000), 1},
	} {
		check(t, named(fmt.Sprint("Yearly of ", x.base), x.c), amount(tax.Yearly(x.base, x.c)), told{c: x.wanted})
	}
}

func TestP24_1Single(t *testing.T) {
	for _, x := range []struct {
		base   api.Cents
		of     int
		c      api.Card
		wanted told
	}{
		{60000, 12, three(), told{c: 10500}},
		{720000, 1, three(), told{c: 120500}},
		{-60000, 12, three(), told{c: 500}},
		{0, 400, api.Card{}, told{}},
		{100000, 12, example(), told{c: 18000}},
		{0, 12, card(0, most), told{c: most}},
		{1, 1, card(0, most-1, 0, 1000000), told{c: most}},
		{1, 1, card(0, most, 0, 1000000), told{e: api.ErrOverflow}},
		{2, 1, card(0, most-1, 0, 1000000), told{e: api.ErrOverflow}},
		{most, 400, card(0, 1, 0, 1000000), told{e: api.ErrOverflow}},
		{most, 400, card(0, most, 0, 1000000), told{e: api.ErrOverflow}},
		{1, 1, card(0, most, 0, 499999), told{c: most}},
	} {
		check(t, named(fmt.Sprint("Single of ", x.base, ", 1 of ", x.of), x.c), amount(tax.Single(x.base, x.of, x.c)), x.wanted)
	}
}

// TestP24_1Periods: each number of periods there may be.
func TestP24_1Periods(t *testing.T) {
	for of := 1; of <= 402; of++ {
		for _, index := range []int{0, 1, 2, of - 1, of, of + 1} {
			base := api.Cents(index) * 12345
			what := fmt.Sprint(index, " of ", of)
			check(t, what, amount(tax.ToDate(base, index, of, three())), toDateByWords(base, index, of, three()))
			check(t, "step of "+what, step(tax.Sums{}, base, index, of, three()), stepByWords(tax.Sums{}, base, index, of, three()))
		}
		check(t, fmt.Sprint("Single, 1 of ", of), amount(tax.Single(98765, of, three())), singleByWords(98765, of, three()))
	}
}

func TestP24_1ByWords(t *testing.T) {
	r := rand.New(rand.NewSource(2411))
	seen := map[api.Errno]int{}
	for range 30000 {
		c := someCard(r, r.Intn(3) == 0)
		index, of := someIndex(r)
		base := someAmount(r, true)
		what := named(fmt.Sprint(base, ", ", index, " of ", of), c)
		got := amount(tax.ToDate(base, index, of, c))
		check(t, "ToDate of "+what, got, toDateByWords(base, index, of, c))
		check(t, "Yearly of "+what, amount(tax.Yearly(base, c)), toDateByWords(base, 1, 1, c))
		single := amount(tax.Single(base, of, c))
		check(t, "Single of "+what, single, singleByWords(base, of, c))
		seen[got.e]++
		seen[single.e]++
	}
	for _, e := range []api.Errno{api.OK, api.ErrRange, api.ErrOrder, api.ErrOverflow} {
		check(t, fmt.Sprint("error ", e, " is come to"), seen[e] > 50, true)
	}
}

// TestP24_2Example: the chapter's, two months, and then a month of nothing instead of the second.
func TestP24_2Example(t *testing.T) {
	first := tax.Sums{Base: 100000, Tax: 18000}
	check(t, "the first", step(tax.Sums{}, 100000, 1, 12, example()), told{sums: first, c: 18000})
	check(t, "the second", step(first, 100000, 2, 12, example()), told{sums: tax.Sums{Base: 200000, Tax: 36000}, c: 18000})
	check(t, "of nothing", step(first, 0, 2, 12, example()), told{sums: tax.Sums{Base: 100000, Tax: 16000}, c: -2000})
}

func TestP24_2Step(t *testing.T) {
	all := card(0, 0, 0, 1000000)
	for _, x := range []struct {
		was       tax.Sums
		base      api.Cents
		index, of int
		c         api.Card
		sums      tax.Sums
		held      api.Cents
	}{
		{tax.Sums{}, 60000, 1, 12, three(), tax.Sums{Base: 60000, Tax: 10000}, 10500},
		{tax.Sums{Base: 60000, Tax: 10000}, -60000, 2, 12, three(), tax.Sums{}, -9500},
		{tax.Sums{Base: -100}, 200, 5, 12, all, tax.Sums{Base: 100, Tax: 100}, 100},
		{tax.Sums{Base: 100, Tax: -70}, 0, 5, 12, all, tax.Sums{Base: 100, Tax: 100}, 170}, // a tax to date may be below 0,
		{tax.Sums{Base: 100, Tax: 170}, 0, 5, 12, all, tax.Sums{Base: 100, Tax: 100}, -70}, // or above the base
		{tax.Sums{Base: 0, Tax: 500}, 0, 1, 1, api.Card{Extra: 500}, tax.Sums{}, 0},
		{tax.Sums{}, most, 1, 1, all, tax.Sums{Base: most, Tax: most}, most},
		{tax.Sums{Base: most, Tax: most}, -most, 400, 400, all, tax.Sums{}, -most},
		{tax.Sums{Base: most, Tax: most}, -most, 400, 400, api.Card{Extra: most}, tax.Sums{}, 0},
		{tax.Sums{Base: -most, Tax: -most}, 0, 1, 1, all, tax.Sums{Base: -most}, most},
		{tax.Sums{Base: -most, Tax: -most}, most, 1, 1, all, tax.Sums{}, most},
		{tax.Sums{Base: -most, Tax: most}, most, 1, 1, card(0, most, 0, 0), tax.Sums{}, 0},
		{tax.Sums{Base: most, Tax: most}, 0, 1, 1, card(0, most, 0, 1000000), tax.Sums{Base: most, Tax: most}, most},
		{tax.Sums{Base: most, Tax: 1}, 0, 1, 1, card(0, 1, 0, 1000000), tax.Sums{Base: most, Tax: most}, most},
		{tax.Sums{Base: -most}, -0, 3, 12, example(), tax.Sums{Base: -most}, 0},
	} {
		what := named(fmt.Sprintf("%+v with %d, %d of %d", x.was, x.base, x.index, x.of), x.c)
		check(t, what, step(x.was, x.base, x.index, x.of, x.c), told{x.sums, x.held, api.OK})
	}
}

func TestP24_2Errors(t *testing.T) {
	full := card(0, most, 0, 1000000)
	for _, x := range []struct {
		was       tax.Sums
		base      api.Cents
		index, of int
		c         api.Card
		wanted    api.Errno
	}{
		{tax.Sums{Base: most + 1}, 0, 1, 12, example(), api.ErrRange},
		{tax.Sums{Base: -most - 1}, 0, 1, 12, example(), api.ErrRange},
		{tax.Sums{Base: most + 1}, -5, 1, 12, example(), api.ErrRange}, // though both together fit
		{tax.Sums{Base: lowest}, lowest, 1, 12, many(65), api.ErrRange},
		{tax.Sums{Base: highest}, 1, 1, 12, many(65), api.ErrRange},
		{tax.Sums{Tax: most + 1}, 0, 1, 12, example(), api.ErrRange},
		{tax.Sums{Tax: -most - 1}, 0, 1, 12, example(), api.ErrRange},
		{tax.Sums{Tax: lowest}, 0, 1, 12, many(65), api.ErrRange},
		{tax.Sums{Tax: highest}, 0, 1, 12, many(65), api.ErrRange},
		{tax.Sums{Base: most, Tax: most + 1}, 1, 1, 12, example(), api.ErrRange}, // ahead of ErrOverflow
		{tax.Sums{}, most + 1, 1, 12, many(65), api.ErrRange},
		{tax.Sums{}, -most - 1, 1, 12, many(65), api.ErrRange},
		{tax.Sums{Base: -most}, most + 1, 1, 12, example(), api.ErrRange},
		{tax.Sums{Base: most}, highest, 1, 12, example(), api.ErrRange},
		{tax.Sums{Base: most}, 1, 1, 12, example(), api.ErrOverflow},
		{tax.Sums{Base: 1}, most, 1, 12, example(), api.ErrOverflow},
		{tax.Sums{Base: -most}, -1, 1, 12, example(), api.ErrOverflow},
		{tax.Sums{Base: -most}, -most, 1, 12, example(), api.ErrOverflow},
		{tax.Sums{Base: most}, 1, 0, 12, many(65), api.ErrOverflow}, // ahead of ToDate's
		{tax.Sums{Base: 7, Tax: 8}, 1, 0, 12, many(65), api.ErrRange},
		{tax.Sums{Base: 7, Tax: 8}, 1, 13, 12, example(), api.ErrRange},
		{tax.Sums{Base: 7, Tax: 8}, 1, 1, 401, example(), api.ErrRange},
		{tax.Sums{Tax: -most}, 1, 0, 12, full, api.ErrRange}, // ahead of what is withheld
		{tax.Sums{Tax: -most}, 1, 1, 1, card(0, 0, 0, 1000000), api.ErrOverflow},
		{tax.Sums{Tax: -most}, 0, 1, 1, card(0, 1, 0, 1000000), api.ErrOverflow},
		{tax.Sums{Tax: -1}, 0, 1, 1, full, api.ErrOverflow},
		{tax.Sums{}, 1, 1, 1, full, api.ErrOverflow},
		{tax.Sums{Base: most, Tax: most - 1}, 0, 1, 1, full, api.ErrOverflow},
		{tax.Sums{Tax: -most}, most, 1, 1, full, api.ErrOverflow},
	} {
		what := named(fmt.Sprintf("%+v with %d, %d of %d", x.was, x.base, x.index, x.of), x.c)
		check(t, what, step(x.was, x.base, x.index, x.of, x.c), told{x.was, 0, x.wanted})
	}
	was := tax.Sums{Base: 7, Tax: 8}
	for e, l := range wrong() {
		for _, c := range l {
			check(t, named("a step", c), step(was, 5, 2, 12, c), told{was, 0, e})
		}
	}
}

func TestP24_2ByWords(t *testing.T) {
	r := rand.New(rand.NewSource(2421))
	seen := map[api.Errno]int{}
	for range 40000 {
		was := tax.Sums{Base: someAmount(r, true), Tax: someAmount(r, true)}
		c := someCard(r, r.Intn(3) == 0)
		index, of := someIndex(r)
		base := someAmount(r, true)
		got := step(was, base, index, of, c)
		check(t, named(fmt.Sprintf("%+v with %d, %d of %d", was, base, index, of), c), got, stepByWords(was, base, index, of, c))
		seen[got.e]++
	}
	for _, e := range []api.Errno{api.OK, api.ErrRange, api.ErrOrder, api.ErrOverflow} {
		check(t, fmt.Sprint("error ", e, " is come to"), seen[e] > 50, true)
	}
}

// year is what a year of these bases withholds by a card, in all.
func year(t *testing.T, c api.Card, bases []api.Cents) api.Cents {
	t.Helper()
	var now tax.Sums
	var held, all api.Cents
	for i, base := range bases {
		got := step(now, base, i+1, len(bases), c)
		all += base
		check(t, named(fmt.Sprint("error of ", bases), c), got.e, api.OK)
		check(t, named(fmt.Sprint("sums of ", bases), c), got.sums, tax.Sums{Base: all, Tax: toDateByWords(all, i+1, len(bases), c).c})
		now, held = got.sums, held+got.c
	}
	return held
}

// TestP24_3: over a year what is withheld is the table's tax of all bases, and the Extras; in whatever order the bases come.
func TestP24_3(t *testing.T) {
	r := rand.New(rand.NewSource(2431))
	for range 200 {
		c := someCard(r, true)
		var bases []api.Cents
		var all api.Cents
		for range 1 + r.Intn([]int{12, 26, 53, 400}[r.Intn(4)]) {
			base := api.Cents(r.Intn(6000) - 1500)
			bases, all = append(bases, base), all+base
		}
		yearly := amount(tax.Yearly(all, c))
		wanted := yearly.c + c.Extra*api.Cents(len(bases))
		check(t, named(fmt.Sprint("error of Yearly of ", all), c), yearly.e, api.OK)
		check(t, named(fmt.Sprint("a year of ", bases), c), year(t, c, bases), wanted)
		slices.Sort(bases)
		check(t, named(fmt.Sprint("a year of sorted ", bases), c), year(t, c, bases), wanted)
		slices.Reverse(bases)
		check(t, named(fmt.Sprint("a year of turned ", bases), c), year(t, c, bases), wanted)
	}
}

// TestP24_3More: to date more base has never less tax, and the tax is never above what of the base is above 0.
func TestP24_3More(t *testing.T) {
	r := rand.New(rand.NewSource(2432))
	for range 20000 {
		c := someCard(r, r.Intn(2) == 0)
		index, of := someIndex(r)
		base := someAmount(r, true)
		less := amount(tax.ToDate(base, index, of, c))
		if less.e != api.OK {
			continue
		}
		what := named(fmt.Sprint(base, ", ", index, " of ", of), c)
		check(t, "no more than there is of "+what, 0 <= less.c && less.c <= max(base, 0), true)
		if base < most {
			further := base + 1 + api.Cents(r.Int63n(int64(min(most-base, 5000))))
			more := amount(tax.ToDate(further, index, of, c))
			check(t, fmt.Sprint("error of ", further, " ahead of ", what), more.e, api.OK)
			check(t, fmt.Sprint("more tax of ", further, " than of ", what), more.c >= less.c, true)
		}
	}
}

// TestMemory: a card that is handed in stays as it was, spare room included.
func TestMemory(t *testing.T) {
	c := three()
	c.Bands = append(c.Bands, api.Band{From: -1, Rate: -1})
	kept := slices.Clone(c.Bands)
	given := c
	given.Bands = c.Bands[:3]
	_, _ = tax.ToDate(600000, 1, 12, given)
	_, _, _ = tax.Step(tax.Sums{}, 600000, 1, 12, given)
	_, _ = tax.Yearly(600000, given)
	_, _ = tax.Single(600000, 12, given)
	check(t, "bands that were handed in", slices.Equal(c.Bands, kept), true)
}
