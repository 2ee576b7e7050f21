package before_test

import (
	"fmt"
	"maps"
	"math/rand"
	"slices"
	"strings"
	"testing"

	"wagebook/api"
	"wagebook/before"
	"wagebook/cents"
)

// TestP25_1Example: the chapter's.
func TestP25_1Example(t *testing.T) {
	c := call{gross: 100000, wanted: items("pension", 30000), limits: []api.Limit{{Code: "pension", Most: 100000}}}
	checkTaken(t, c, items("pension", 10000), sums{"pension": 10000})
}

func TestP25_1Take(t *testing.T) {
	all := int(most)
	for _, x := range []struct {
		c      call
		wanted []api.Item
		now    sums
	}{
		{call{gross: 100}, nil, nil},
		{call{gross: 100, was: sums{"a": 5}}, nil, sums{"a": 5}},
		{call{gross: 100, wanted: items("a", 30, "b", 20)}, items("a", 30, "b", 20), sums{"a": 30, "b": 20}},
		{call{gross: 100, wanted: items("b", 20, "a", 30)}, items("b", 20, "a", 30), sums{"a": 30, "b": 20}}, // as they stand, not by their codes
		// What is left of the gross.
		{call{gross: 100, wanted: items("a", 100, "b", 1)}, items("a", 100), sums{"a": 100, "b": 0}},
		{call{gross: 100, wanted: items("a", 101)}, items("a", 100), sums{"a": 100}},
		{call{gross: 100, wanted: items("a", 60, "b", 60, "c", 60)}, items("a", 60, "b", 40), sums{"a": 60, "b": 40, "c": 0}},
		{call{gross: 1, wanted: items("a", all)}, items("a", 1), sums{"a": 1}},
		{call{gross: most, wanted: items("a", all, "b", all)}, items("a", all), sums{"a": most, "b": 0}},
		{call{gross: 0, wanted: items("a", 5)}, nil, sums{"a": 0}},
		{call{gross: -1, was: sums{"a": 7}, wanted: items("a", 5)}, nil, sums{"a": 7}},
		{call{gross: -most, wanted: items("a", 5, "a", all), limits: []api.Limit{{Code: "a", Most: 500000, Yearly: 9}}}, nil, sums{"a": 0}},
		{call{gross: 100, wanted: items("a", 0, "b", 5)}, items("b", 5), sums{"a": 0, "b": 5}},
		// The code's part of the gross.
		{call{gross: 1000, wanted: items("a", 300, "b", 300), limits: []api.Limit{{Code: "b", Most: 100000}}}, items("a", 300, "b", 100), sums{"a": 300, "b": 100}}, // of the whole gross, not of its rest
		{call{gross: 1000, wanted: items("a", 950, "b", 300), limits: []api.Limit{{Code: "b", Most: 100000}}}, items("a", 950, "b", 50), sums{"a": 950, "b": 50}},
		{call{gross: 1000, wanted: items("a", 99), limits: []api.Limit{{Code: "a", Most: 100000}}}, items("a", 99), sums{"a": 99}},
		{call{gross: 100, wanted: items("a", 5), limits: []api.Limit{{Code: "a"}}}, nil, sums{"a": 0}}, // of nothing
		{call{gross: 100, wanted: items("a", 500), limits: []api.Limit{{Code: "a", Most: one}}}, items("a", 100), sums{"a": 100}},
		{call{gross: 100, wanted: items("a", 500), limits: []api.Limit{{Code: "a", Most: one - 1}}}, items("a", 100), sums{"a": 100}},
		{call{gross: most, wanted: items("a", all), limits: []api.Limit{{Code: "a", Most: one - 1}}}, items("a", all-1125899907), sums{"a": most - 1125899907}},
		{call{gross: 105, wanted: items("a", 50), limits: []api.Limit{{Code: "a", Most: 100000}}}, items("a", 11), sums{"a": 11}}, // 10.5
		{call{gross: 104, wanted: items("a", 50), limits: []api.Limit{{Code: "a", Most: 100000}}}, items("a", 10), sums{"a": 10}}, // 10.4
		{call{gross: 1, wanted: items("a", 50), limits: []api.Limit{{Code: "a", Most: 500000}}}, items("a", 1), sums{"a": 1}},
		{call{gross: 1, wanted: items("a", 50), limits: []api.Limit{{Code: "a", Most: 499999}}}, nil, sums{"a": 0}},
		{call{gross: 100, was: sums{"a": 90}, wanted: items("a", 50), limits: []api.Limit{{Code: "a", Most: 500000}}}, items("a", 50), sums{"a": 140}}, // what was taken ahead of the call is of other grosses
		{call{gross: 100, wanted: items("a", 30, "a", 30, "a", 5), limits: []api.Limit{{Code: "a", Most: 500000}}}, items("a", 30, "a", 20), sums{"a": 50}},
		{call{gross: 100, wanted: items("a", 30, "b", 30, "a", 30), limits: []api.Limit{{Code: "a", Most: 500000}}}, items("a", 30, "b", 30, "a", 20), sums{"a": 50, "b": 30}},
		{call{gross: 100, wanted: items("a", 30, "b", 60), limits: []api.Limit{{Code: "z", Most: 1}, {Code: "a", Most: 200000}}}, items("a", 20, "b", 60), sums{"a": 20, "b": 60}},
		// What is left of the year.
		{call{gross: 1000, was: sums{"a": 90}, wanted: items("a", 50), limits: []api.Limit{{Code: "a", Most: one, Yearly: 100}}}, items("a", 10), sums{"a": 100}},
		{call{gross: 1000, was: sums{"a": 90}, wanted: items("a", 9), limits: []api.Limit{{Code: "a", Most: one, Yearly: 100}}}, items("a", 9), sums{"a": 99}},
		{call{gross: 1000, was: sums{"a": 100}, wanted: items("a", 50), limits: []api.Limit{{Code: "a", Most: one, Yearly: 100}}}, nil, sums{"a": 100}},
		{call{gross: 1000, was: sums{"a": 101}, wanted: items("a", 50, "b", 7), limits: []api.Limit{{Code: "a", Most: one, Yearly: 100}}}, items("b", 7), sums{"a": 101, "b": 7}}, // a limit that has sunk gives nothing back
		{call{gross: 1000, was: sums{"a": most}, wanted: items("a", 50), limits: []api.Limit{{Code: "a", Most: one, Yearly: 1}}}, nil, sums{"a": most}},
		{call{gross: 1000, was: sums{"b": 90}, wanted: items("a", 50), limits: []api.Limit{{Code: "a", Most: one, Yearly: 100}}}, items("a", 50), sums{"a": 50, "b": 90}},
		{call{gross: 1000, was: sums{"a": 900}, wanted: items("a", 50), limits: []api.Limit{{Code: "a", Most: one}}}, items("a", 50), sums{"a": 950}},
		{call{gross: 1000, was: sums{"a": 20}, wanted: items("a", 50, "a", 50), limits: []api.Limit{{Code: "a", Most: one, Yearly: 100}}}, items("a", 50, "a", 30), sums{"a": 100}},
		{call{gross: most, wanted: items("a", all, "a", 1), limits: []api.Limit{{Code: "a", Most: one, Yearly: most}}}, items("a", all), sums{"a": most}},
		// The least of all.
		{call{gross: 1000, was: sums{"a": 20}, wanted: items("a", 500), limits: []api.Limit{{Code: "a", Most: 50000, Yearly: 100}}}, items("a", 50), sums{"a": 70}},
		{call{gross: 1000, was: sums{"a": 60}, wanted: items("a", 500), limits: []api.Limit{{Code: "a", Most: 50000, Yearly: 100}}}, items("a", 40), sums{"a": 100}},
		{call{gross: 1000, was: sums{"A b": -5, "": highest}, wanted: items("a", 5)}, items("a", 5), sums{"A b": -5, "": highest, "a": 5}}, // what isn't asked for needn't be right
		{call{gross: 10, was: sums{"a": most - 10}, wanted: items("a", 50)}, items("a", 10), sums{"a": most}},
		{call{gross: 0, was: sums{"a": most}, wanted: items("a", 50)}, nil, sums{"a": most}},
	} {
		checkTaken(t, x.c, x.wanted, x.now)
	}
	for _, code := range []string{"-a", "a-", "--", ".", "_", "0", "a.b_c-9", strings.Repeat("z", 32)} {
		c := call{gross: 100, wanted: items(code, 30), limits: []api.Limit{{Code: code, Most: 100000}}}
		checkTaken(t, c, items(code, 10), sums{code: 10})
	}
}

// TestP25_1Many: as many limits and wanted items as there may be.
func TestP25_1Many(t *testing.T) {
	c := call{gross: 1000, wanted: numbered(64), limits: limitsOf(numbered(64))}
	got, now, e := c.take()
	check(t, "error", e, api.OK)
	check(t, "what limits of nothing let", len(got), 0)
	check(t, "codes", len(now), 64)
	c.limits = nil
	got, now, e = c.take()
	check(t, "error", e, api.OK)
	check(t, "items", slices.Equal(got, numbered(64)), true)
	check(t, "codes", len(now), 64)
}

func TestP25_1Errors(t *testing.T) {
	nameless, spoilt := api.Limit{}, api.Limit{Code: "a", Most: -1}
	a, b := api.Limit{Code: "a"}, api.Limit{Code: "b"}
	bad := sums{"b": -1}
	for _, x := range []struct {
		c      call
		wanted api.Errno
	}{
		{call{gross: most + 1}, api.ErrRange},
		{call{gross: -most - 1}, api.ErrRange},
		{call{gross: highest, limits: make([]api.Limit, 65)}, api.ErrRange}, // ahead of all
		{call{gross: lowest, limits: []api.Limit{nameless}, wanted: make([]api.Item, 65)}, api.ErrRange},
		{call{limits: limitsOf(numbered(65))}, api.ErrMany},
		{call{limits: make([]api.Limit, 65)}, api.ErrMany}, // ahead of ErrName
		{call{limits: []api.Limit{nameless}, wanted: make([]api.Item, 65)}, api.ErrName},
		{call{limits: []api.Limit{{Code: "A", Most: -1, Yearly: -1}}}, api.ErrName}, // ahead of its ErrRange
		{call{limits: []api.Limit{nameless, nameless}}, api.ErrName},
		{call{limits: []api.Limit{a, a}}, api.ErrTwice},
		{call{limits: []api.Limit{a, b, a}}, api.ErrTwice},
		{call{limits: []api.Limit{a, spoilt}}, api.ErrTwice}, // ahead of its ErrRange
		{call{limits: []api.Limit{spoilt, a}}, api.ErrRange}, // limit by limit
		{call{limits: []api.Limit{spoilt, nameless}}, api.ErrRange},
		{call{limits: []api.Limit{a, nameless, a}}, api.ErrName},
		{call{limits: []api.Limit{a, a, nameless}}, api.ErrTwice},
		{call{limits: []api.Limit{spoilt}, wanted: make([]api.Item, 65)}, api.ErrRange},
		{call{limits: []api.Limit{spoilt}, wanted: items("", 1)}, api.ErrRange}, // ahead of the wanted items
		{call{wanted: numbered(65)}, api.ErrMany},
		{call{wanted: make([]api.Item, 65)}, api.ErrMany}, // ahead of ErrName
		{call{wanted: items("", 1)}, api.ErrName},
		{call{wanted: items("A", -1)}, api.ErrName}, // ahead of its ErrRange
		{call{was: sums{"": -1}, wanted: items("", 1)}, api.ErrName},
		{call{wanted: items("a", -1)}, api.ErrRange},
		{call{wanted: items("a", -1, "", 1)}, api.ErrRange}, // item by item
		{call{wanted: items("a", 1, "", 1, "b", -1)}, api.ErrName},
		{call{wanted: items("a", 1, "b", int(most)+1)}, api.ErrRange},
		{call{was: bad, wanted: items("a", 1, "b", 0, "", 1)}, api.ErrRange},
		{call{was: bad, wanted: items("a", 1, "", 1, "b", 1)}, api.ErrName},
		{call{gross: -5, was: bad, wanted: items("b", 1)}, api.ErrRange}, // also where nothing is taken
	} {
		checkRefused(t, x.c, x.wanted)
	}
	for _, code := range []string{"", "-", "A", "a b", "a:b", "ä", "a\n", "a\x00", strings.Repeat("z", 33), strings.Repeat("z", 5000)} {
		checkRefused(t, call{limits: []api.Limit{{Code: code}}}, api.ErrName)
		checkRefused(t, call{wanted: items(code, 0)}, api.ErrName)
	}
	for _, r := range []api.Rate{-1, one + 1, lowest, highest} {
		checkRefused(t, call{limits: []api.Limit{{Code: "a", Most: r}}}, api.ErrRange)
	}
	for _, c := range []int{-1, int(most) + 1, -int(most), lowest, highest} {
		checkRefused(t, call{limits: []api.Limit{{Code: "a", Yearly: api.Cents(c)}}}, api.ErrRange)
		checkRefused(t, call{wanted: items("a", c)}, api.ErrRange)
		checkRefused(t, call{was: sums{"a": api.Cents(c)}, wanted: items("a", 0)}, api.ErrRange)
		checkRefused(t, call{gross: 9, was: sums{"a": api.Cents(c)}, wanted: items("a", 5)}, api.ErrRange)
	}
}

func TestP25_1Overflow(t *testing.T) {
	for _, x := range []struct {
		c      call
		wanted api.Errno
	}{
		{call{gross: 100, was: sums{"a": most}, wanted: items("a", 1)}, api.ErrOverflow},
		{call{gross: 1, was: sums{"a": most}, wanted: items("a", int(most))}, api.ErrOverflow},
		{call{gross: most, was: sums{"a": 1}, wanted: items("a", int(most))}, api.ErrOverflow},
		{call{gross: most, was: sums{"a": most}, wanted: items("a", int(most))}, api.ErrOverflow},
		{call{gross: 100, was: sums{"a": most - 5}, wanted: items("a", 3, "a", 3)}, api.ErrOverflow},
		{call{gross: 100, was: sums{"a": most - 5}, wanted: items("a", 3, "b", 3, "a", 3, "", 1)}, api.ErrOverflow}, // item by item
		{call{gross: 100, was: sums{"a": most - 5}, wanted: items("a", 6, "b", -1)}, api.ErrOverflow},
		{call{gross: 100, was: sums{"a": most - 5}, wanted: items("a", 3, "", 1, "a", 3)}, api.ErrName},
		{call{gross: 100, was: sums{"a": most - 5, "b": -1}, wanted: items("a", 3, "b", 1, "a", 3)}, api.ErrRange},
		{call{gross: 100, was: sums{"a": most}, wanted: items("a", 9), limits: []api.Limit{{Code: "a", Most: 5000}}}, api.ErrOverflow}, // 0.5
	} {
		checkRefused(t, x.c, x.wanted)
	}
	for _, c := range []call{ // what isn't taken isn't too much
		{gross: 100, was: sums{"a": most}, wanted: items("a", 0)},
		{gross: 100, was: sums{"a": most}, wanted: items("a", 9), limits: []api.Limit{{Code: "a", Most: 4999}}},
		{gross: 100, was: sums{"a": most}, wanted: items("a", 9), limits: []api.Limit{{Code: "a", Most: one, Yearly: most}}},
	} {
		checkTaken(t, c, nil, sums{"a": most})
	}
}

func TestP25_1ByWords(t *testing.T) {
	r := rand.New(rand.NewSource(2511))
	seen := map[api.Errno]int{}
	for i := range 60000 {
		c := someCall(r, []int{50, 14, 6}[i%3], true)
		taken, now, e := c.byWords()
		if seen[e]++; e != api.OK {
			checkRefused(t, c, e)
		} else {
			checkTaken(t, c, taken, now)
		}
	}
	for _, e := range []api.Errno{api.OK, api.ErrRange, api.ErrName, api.ErrTwice, api.ErrOverflow} {
		check(t, fmt.Sprint("error ", e, " is come to"), seen[e] > 50, true)
	}
}

func TestP25_2After(t *testing.T) {
	for _, x := range []struct {
		left   api.Cents
		items  []api.Item
		wanted []api.Item
		behind api.Cents
	}{
		{5000, items("a", 3000, "b", 3000), items("a", 3000, "b", 2000), 0}, // the chapter's
		{5000, nil, nil, 5000},
		{5000, items("b", 10, "a", 20), items("b", 10, "a", 20), 4970},
		{5000, items("a", 10, "a", 20), items("a", 10, "a", 20), 4970}, // a code may stand twice
		{5000, items("a", 5000, "b", 1), items("a", 5000), 0},
		{5000, items("a", 4999, "b", 5, "c", 1), items("a", 4999, "b", 1), 0},
		{5000, items("a", 0, "b", -7, "c", 5), items("c", 5), 4995},
		{5000, items("a", lowest, "b", highest), items("b", 5000), 0},
		{1, items("a", 1), items("a", 1), 0},
		{0, items("a", 1, "b", -1), nil, 0},
		{-5, items("a", 1, "b", -9), nil, -5},
		{lowest, items("a", highest, "b", lowest), nil, lowest},
		{highest, items("a", 1, "b", -1), items("a", 1), highest - 1}, // what is left may be any
		{highest, items("a", highest, "b", highest), items("a", highest), 0},
		{9, items("", 1, "A b", 2, strings.Repeat("z", 99), 3), items("", 1, "A b", 2, strings.Repeat("z", 99), 3), 3}, // so may codes
	} {
		got, left := before.After(x.left, x.items)
		what := fmt.Sprint("After of ", x.left, " and ", x.items)
		check(t, fmt.Sprint(what, ": ", got), slices.Equal(got, x.wanted), true)
		check(t, "what is left, "+what, left, x.behind)
	}
	many, left := before.After(150, numbered(200)) // and as many as one likes
	check(t, "many", slices.Equal(many, numbered(150)), true)
	check(t, "what is left of many", left, 0)
}

// TestP25_2ByWords takes cent by cent.
func TestP25_2ByWords(t *testing.T) {
	r := rand.New(rand.NewSource(2521))
	for range 5000 {
		start := api.Cents(r.Intn(120) - 20)
		var l, wanted []api.Item
		left := start
		for i := range r.Intn(7) {
			item := api.Item{Code: fmt.Sprint("c", i%4), Cents: api.Cents(r.Intn(60) - 15)}
			l = append(l, item)
			var taken api.Cents
			for left > 0 && taken < item.Cents {
				left--
				taken++
			}
			if taken > 0 {
				wanted = append(wanted, api.Item{Code: item.Code, Cents: taken})
			}
		}
		got, behind := before.After(start, l)
		what := fmt.Sprint("After of ", start, " and ", l)
		check(t, fmt.Sprint(what, ": ", got), slices.Equal(got, wanted), true)
		check(t, "what is left, "+what, behind, left)
	}
}

func TestP25_3Sum(t *testing.T) {
	all := int(most)
	for _, x := range []struct {
		l      []api.Item
		wanted api.Cents
		e      api.Errno
	}{
		{nil, 0, api.OK},
		{items("a", 5, "b", -7), -2, api.OK},
		{items("a", 5, "a", 5, "", 1), 11, api.OK},
		{items("a", all, "b", -1, "c", 1), most, api.OK},
		{items("a", all, "b", 1, "c", -1), 0, api.ErrOverflow}, // one by one
		{items("a", -all, "b", -1), 0, api.ErrOverflow},
		{items("a", 1, "b", all+1), 0, api.ErrRange},
		{items("a", lowest), 0, api.ErrRange},
		{items("a", all, "b", 1, "c", all+1), 0, api.ErrOverflow},
	} {
		c, e := before.Sum(x.l)
		check(t, fmt.Sprint("Sum of ", x.l), c, x.wanted)
		check(t, fmt.Sprint("error of Sum of ", x.l), e, x.e)
	}
	r := rand.New(rand.NewSource(2531))
	for range 2000 {
		var l []api.Item
		var amounts []api.Cents
		for range r.Intn(100) {
			c := someAmount(r, 50, true)
			l, amounts = append(l, api.Item{Cents: c}), append(amounts, c)
		}
		c, e := before.Sum(l)
		wanted, wantedE := cents.Sum(amounts...)
		check(t, fmt.Sprint("Sum of ", l), c, wanted)
		check(t, fmt.Sprint("error of Sum of ", l), e, wantedE)
	}
}

// TestP25_4: all that is taken isn't above the gross, and no code's year is passed by it.
func TestP25_4(t *testing.T) {
	r := rand.New(rand.NewSource(2541))
	for i := range 20000 {
		c := someCall(r, []int{14, 6}[i%2], false)
		got, now, e := c.take()
		check(t, "error of "+c.text(), e, api.OK)
		all, e := before.Sum(got)
		check(t, "error of all of "+c.text(), e, api.OK)
		check(t, "no more than the gross, "+c.text(), all <= max(c.gross, 0), true)
		for _, l := range c.limits {
			isWithin := now[l.Code] <= max(l.Yearly, c.was[l.Code])
			check(t, "no year is passed, "+c.text(), l.Yearly == 0 || isWithin, true)
		}
		for code, sum := range now {
			check(t, "what is taken stands in the sums, "+c.text(), sum-c.was[code], takenOf(got, code))
		}
	}
}

// TestP25_4Less: a limit that is less takes no more of its code.
func TestP25_4Less(t *testing.T) {
	r := rand.New(rand.NewSource(2542))
	for i := range 20000 {
		c := someCall(r, []int{14, 6}[i%2], false)
		if len(c.limits) == 0 {
			continue
		}
		_, more, e := c.take()
		check(t, "error of "+c.text(), e, api.OK)
		less := c
		less.limits = slices.Clone(c.limits)
		l := &less.limits[r.Intn(len(c.limits))]
		if r.Intn(2) == 0 {
			l.Most = api.Rate(r.Int63n(int64(l.Most) + 1))
		} else if l.Yearly != 1 { // 0 is without end
			l.Yearly = 1 + api.Cents(r.Int63n(int64(max(l.Yearly, 1))))
		}
		_, now, e := less.take()
		check(t, "error of "+less.text(), e, api.OK)
		check(t, fmt.Sprint("no more of ", l.Code, " by less, ", c.text()), now[l.Code] <= more[l.Code], true)
	}
}

// TestP25_4After: what After takes and leaves is what was there.
func TestP25_4After(t *testing.T) {
	r := rand.New(rand.NewSource(2543))
	for range 20000 {
		left := someAmount(r, 50, false)
		var l []api.Item
		for range r.Intn(8) {
			l = append(l, api.Item{Code: someCode(r, true), Cents: someAmount(r, 50, true)})
		}
		got, behind := before.After(left, l)
		taken, e := before.Sum(got)
		check(t, "error", e, api.OK)
		check(t, fmt.Sprint("taken and left of ", left, " by ", l), taken+behind, left)
	}
}

// TestMemory: what is handed in stays as it was, spare room included, also where a later item is refused; what is answered is new.
func TestMemory(t *testing.T) {
	was := sums{"a": 5, "else": 7}
	wanted := items("a", 30, "b", 30, "", 30)
	limits := []api.Limit{{Code: "a", Most: 100000}, {Code: "b", Most: one, Yearly: 20}, {}}
	keptWas, keptWanted, keptLimits := maps.Clone(was), slices.Clone(wanted), slices.Clone(limits)
	l, now, e := before.Take(100, was, wanted[:2], limits[:2]...)
	check(t, "error", e, api.OK)
	more, again, _ := before.Take(100, was, wanted[:2], limits[:2]...)
	_, _, e = before.Take(100, was, wanted, limits[:2]...)
	check(t, "error of the last one", e, api.ErrName)
	after, _ := before.After(100, wanted[:2])
	_, _ = before.Sum(wanted[:2])
	after[0].Cents = 0
	_ = append(after[:1], api.Item{})
	now["a"], now["new"] = 0, 0
	delete(now, "else")
	l[0].Cents = 0
	_ = append(l[:1], api.Item{})
	check(t, "sums that were handed in", maps.Equal(was, keptWas), true)
	check(t, "items that were handed in", slices.Equal(wanted, keptWanted), true)
	check(t, "limits that were handed in", slices.Equal(limits, keptLimits), true)
	check(t, "sums that were told twice", maps.Equal(again, sums{"a": 15, "b": 20, "else": 7}), true)
	check(t, "items that were told twice", slices.Equal(more, items("a", 10, "b", 20)), true)
	_, same, _ := before.Take(100, was, nil)
	same["a"] = 0
	check(t, "sums without an item are new, too", maps.Equal(was, keptWas), true)
}

// TestP1NoPanic hands each call what is farthest out.
func TestP1NoPanic(t *testing.T) {
	far := []int{lowest, lowest + 1, -int(most) - 1, -int(most), -1, 0, 1, int(most) - 1, int(most), int(most) + 1, highest - 1, highest}
	for _, a := range far {
		for _, b := range far {
			_, _ = before.After(api.Cents(a), items("a", b, "b", b))
			_, _ = before.Sum(items("a", a, "b", b))
			for _, c := range far {
				l := api.Limit{Code: "a", Most: api.Rate(b), Yearly: api.Cents(c)}
				_, _, _ = before.Take(api.Cents(a), sums{"a": api.Cents(b)}, items("a", c, "a", a), l)
				_, _, _ = before.Take(api.Cents(a), nil, items("a", c, "a", b), api.Limit{Code: "a", Most: 500000, Yearly: api.Cents(b)})
			}
		}
	}
}
