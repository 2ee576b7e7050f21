package year_test

import (
	"fmt"
	"math/rand"
	"slices"
	"strings"
	"testing"

	"wagebook/api"
	"wagebook/slip"
	"wagebook/year"
)

// TestP28_1Example: the chapter's.
func TestP28_1Example(t *testing.T) {
	m := at(2024, 1, 12)
	m.Gross = items("salary", 500000)
	m.Schemes = []api.Scheme{{Code: "old", Worker: 100000, Firm: 100000}}
	m.Orders = []api.Order{{Code: "loan", Fixed: 10000}}
	s, got, e := year.State{}.Step(m)
	check(t, "error", e, api.OK)
	checkSame(t, "slip", got, api.Slip{Year: 2024, Index: 1, Lines: lines(0, "salary", 500000, 2, "old", 50000, 5, "loan", 10000, 6, "old", 50000)})
	check(t, "text", s.Text(), "last 2024 1 12\nsocial old 5000.00 5000.00 500.00 500.00\ntax 5000.00 0.00\norder loan 100.00\n")
}

// whole is a Month that has something of each part: 1000.00, of which 100.00 ahead of tax, 10% of 1000.00, 20% of 900.00 above 100.00 a period, 50.00 behind tax, and 30% of what is left.
func whole(year, index int) api.Month {
	return api.Month{
		Year: year, Index: index, Of: 2,
		Gross:   items("salary", 90000, "bonus", 10000),
		Before:  items("pension", 30000),
		After:   items("canteen", 5000),
		Limits:  []api.Limit{{Code: "pension", Most: 100000, Yearly: 15000}},
		Schemes: []api.Scheme{{Code: "old", Worker: 100000, Firm: 120000, Ceiling: 150000}},
		Card:    api.Card{Allowance: 20000, Bands: []api.Band{{Rate: 200000}}},
		Orders:  []api.Order{{Code: "loan", Rate: 300000, Total: 40000}},
	}
}

// TestP28_1Parts: what each part takes, and of what; the year's sums go on, and begin anew in another year, but for the orders'.
func TestP28_1Parts(t *testing.T) {
	got, s, e := year.Fold(whole(2024, 1), whole(2024, 2), whole(2025, 1))
	check(t, "error", e, api.OK)
	checkAll(t, "three periods", got, []api.Slip{
		{Year: 2024, Index: 1, Lines: lines(0, "bonus", 10000, 0, "salary", 90000, 1, "pension", 10000, 2, "old", 10000, 3, "tax", 16000, 4, "canteen", 5000, 5, "loan", 17700, 6, "old", 12000)},
		{Year: 2024, Index: 2, Lines: lines(0, "bonus", 10000, 0, "salary", 90000, 1, "pension", 5000, 2, "old", 5000, 3, "tax", 17000, 4, "canteen", 5000, 5, "loan", 20400, 6, "old", 6000)},
		{Year: 2025, Index: 1, Lines: lines(0, "bonus", 10000, 0, "salary", 90000, 1, "pension", 10000, 2, "old", 10000, 3, "tax", 16000, 4, "canteen", 5000, 5, "loan", 1900, 6, "old", 12000)},
	})
	check(t, "text", s.Text(), "last 2025 1 2\nbefore pension 100.00\nsocial old 1000.00 1000.00 100.00 120.00\ntax 900.00 160.00\norder loan 400.00\n")
}

func TestP28_1Lines(t *testing.T) {
	withTax := api.Card{Extra: 7}
	for _, x := range []struct {
		m      api.Month
		wanted []api.Line
	}{
		{api.Month{}, nil},
		{api.Month{Gross: items("b", 5, "a", 7, "b", 6)}, lines(0, "a", 7, 0, "b", 11)}, // by codes, those alike as one
		{api.Month{Gross: items("a_", 1, "a", 1, "aa", 1, "a0", 1, "a.", 1, "a-", 1)}, lines(0, "a", 1, 0, "a-", 1, 0, "a.", 1, 0, "a0", 1, 0, "a_", 1, 0, "aa", 1)},
		{api.Month{Gross: items("a", 5, "b", 0, "c", 7, "a", -5)}, lines(0, "c", 7)}, // none of 0
		{api.Month{Gross: items("a", -5)}, lines(0, "a", -5)},
		{api.Month{Gross: items("a", int(most), "b", -int(most), "a", -1)}, lines(0, "a", int(most)-1, 0, "b", -int(most))},
		{api.Month{Gross: items("a", 100), Before: items("b", 5, "a", 7, "b", 6)}, lines(0, "a", 100, 1, "a", 7, 1, "b", 11)},
		{api.Month{Gross: items("a", 10), Before: items("b", 50, "a", 7)}, lines(0, "a", 10, 1, "b", 10)},
		{api.Month{Gross: items("a", 100), After: items("b", 5, "a", 7, "b", 6, "c", 0)}, lines(0, "a", 100, 4, "a", 7, 4, "b", 11)},
		{api.Month{Gross: items("a", 100), After: items("b", 99, "a", 7)}, lines(0, "a", 100, 4, "a", 1, 4, "b", 99)},
		{api.Month{After: items("b", 99)}, nil},
		{api.Month{Card: withTax}, lines(3, "tax", 7)},
		{api.Month{Card: withTax, Gross: items("tax", 9), Before: items("tax", 1)}, lines(0, "tax", 9, 1, "tax", 1, 3, "tax", 7)},
		{api.Month{Card: withTax, Gross: items("a", 9), After: items("a", 5)}, lines(0, "a", 9, 3, "tax", 7, 4, "a", 2)},
		{api.Month{Card: withTax, Gross: items("a", 5), After: items("a", 5), Orders: []api.Order{{Code: "a", Rate: 1000000}}}, lines(0, "a", 5, 3, "tax", 7)}, // what is left may be below 0
		{api.Month{Gross: items("a", 100), Schemes: []api.Scheme{{Code: "z", Worker: 50000, Firm: 60000}, {Code: "b", Worker: 10000}, {Code: "c", Firm: 20000}, {Code: "d"}}}, lines(0, "a", 100, 2, "b", 1, 2, "z", 5, 6, "c", 2, 6, "z", 6)},
		{api.Month{Gross: items("a", 100), Before: items("a", 60), Schemes: []api.Scheme{{Code: "z", Worker: 100000}}}, lines(0, "a", 100, 1, "a", 60, 2, "z", 10)},                                                                                                                                       // of the whole gross
		{api.Month{Gross: items("a", 100), Before: items("a", 60), Card: api.Card{Bands: []api.Band{{Rate: 100000}}}}, lines(0, "a", 100, 1, "a", 60, 3, "tax", 4)},                                                                                                                                       // of the gross less that
		{api.Month{Gross: items("a", 100), Schemes: []api.Scheme{{Code: "z", Worker: 500000}}, Card: api.Card{Bands: []api.Band{{Rate: 100000}}}}, lines(0, "a", 100, 2, "z", 50, 3, "tax", 10)},                                                                                                          // of nothing less
		{api.Month{Gross: items("a", 100), Orders: []api.Order{{Code: "b", Rank: 2, Fixed: 80}, {Code: "c", Rank: 1, Rate: 300000}, {Code: "a", Rank: 2, Rate: 0}}}, lines(0, "a", 100, 5, "b", 70, 5, "c", 30)},                                                                                          // the lines by codes, not as orders are served
		{api.Month{Gross: items("a", 100), Before: items("a", 10), Schemes: []api.Scheme{{Code: "z", Worker: 200000}}, Card: api.Card{Extra: 5}, After: items("a", 15), Orders: []api.Order{{Code: "b", Rate: 500000}}}, lines(0, "a", 100, 1, "a", 10, 2, "z", 20, 3, "tax", 5, 4, "a", 15, 5, "b", 25)}, // 50 are left
		{api.Month{Gross: items("a", 100), Card: api.Card{Extra: 5}, Orders: []api.Order{{Code: "b", Fixed: 100, Protect: 90}}}, lines(0, "a", 100, 3, "tax", 5, 5, "b", 5)},
	} {
		x.m.Year, x.m.Index, x.m.Of = 2024, 3, 12
		_, got, e := year.State{}.Step(x.m)
		check(t, fmt.Sprint("error of ", x.m), e, api.OK)
		checkSame(t, fmt.Sprint("slip of ", x.m), got, api.Slip{Year: 2024, Index: 3, Lines: x.wanted})
	}
}

// TestP28_1TaxBack: a period without pay gives some of the year's tax back.
func TestP28_1TaxBack(t *testing.T) {
	m := at(2024, 1, 12)
	m.Gross = items("salary", 100000)
	m.Card = api.Card{Allowance: 120000, Bands: []api.Band{{Rate: 200000}}}
	second := m
	second.Index, second.Gross = 2, nil
	second.After = items("canteen", 500)
	second.Orders = []api.Order{{Code: "loan", Fixed: 9000, Protect: 1000}}
	got, s, e := year.Fold(m, second)
	check(t, "error", e, api.OK)
	checkAll(t, "given back", got, []api.Slip{
		{Year: 2024, Index: 1, Lines: lines(0, "salary", 100000, 3, "tax", 18000)},
		{Year: 2024, Index: 2, Lines: lines(3, "tax", -2000, 4, "canteen", 500, 5, "loan", 500)}, // what is given back is there to be taken
	})
	check(t, "text", s.Text(), "last 2024 2 12\ntax 1000.00 160.00\norder loan 5.00\n")
}

// TestP28_1Many: as many as there may be of all.
func TestP28_1Many(t *testing.T) {
	m := at(2024, 1, 12)
	m.Gross, m.Before, m.After = numbered(64), numbered(64)[:5], numbered(64)
	m.Gross[0].Cents = 1000
	m.Card.Extra = 3
	for _, i := range numbered(64) {
		m.Limits = append(m.Limits, api.Limit{Code: i.Code, Most: 1000000})
		m.Schemes = append(m.Schemes, api.Scheme{Code: i.Code, Worker: 1000, Firm: 1000})
		m.Orders = append(m.Orders, api.Order{Code: i.Code, Fixed: 1})
	}
	s, got, e := year.State{}.Step(m)
	check(t, "error of many", e, api.OK)
	check(t, "lines of many", len(got.Lines), 64+5+64+1+64+64+64)
	check(t, "what is wrong with many", slip.Check(got), api.OK)
	check(t, "lines of the text of many", strings.Count(s.Text(), "\n"), 1+5+64+1+64)
}

func TestP28_1Place(t *testing.T) {
	begun, ended, other := fold(t, at(2024, 3, 12)), fold(t, at(2024, 12, 12)), fold(t, at(2024, 1, 1))
	last, long := fold(t, at(2199, 4, 4)), fold(t, at(2024, 399, 400))
	for _, x := range []struct {
		s      year.State
		m      api.Month
		wanted api.Errno
	}{
		{year.State{}, at(2024, 1, 12), api.OK}, // at first any is right
		{year.State{}, at(2024, 12, 12), api.OK},
		{year.State{}, at(1900, 1, 1), api.OK},
		{year.State{}, at(2199, 400, 400), api.OK},
		{year.State{}, at(1899, 1, 12), api.ErrRange},
		{year.State{}, at(2200, 1, 12), api.ErrRange},
		{year.State{}, at(1, 1, 12), api.ErrRange},
		{year.State{}, at(2024, 1, 0), api.ErrRange},
		{year.State{}, at(2024, 0, 0), api.ErrRange},
		{year.State{}, at(2024, 1, -1), api.ErrRange},
		{year.State{}, at(2024, 1, 401), api.ErrRange},
		{year.State{}, at(2024, 0, 12), api.ErrRange},
		{year.State{}, at(2024, -1, 12), api.ErrRange},
		{year.State{}, at(2024, 13, 12), api.ErrRange},
		{year.State{}, api.Month{}, api.ErrRange},
		{year.State{}, at(lowest, lowest, lowest), api.ErrRange},
		{year.State{}, at(highest, highest, highest), api.ErrRange},
		{year.State{}, at(2024, highest, 400), api.ErrRange},
		{begun, at(2024, 4, 12), api.OK},
		{begun, at(2024, 3, 12), api.ErrOrder},
		{begun, at(2024, 2, 12), api.ErrOrder},
		{begun, at(2024, 5, 12), api.ErrOrder},
		{begun, at(2024, 4, 13), api.ErrOrder},
		{begun, at(2024, 4, 4), api.ErrOrder},
		{begun, at(2025, 4, 12), api.ErrOrder},
		{begun, at(2023, 4, 12), api.ErrOrder},
		{begun, at(2025, 1, 12), api.ErrOrder}, // the year isn't over
		{begun, at(2024, 0, 12), api.ErrRange}, // ahead of ErrOrder
		{begun, at(2200, 4, 12), api.ErrRange},
		{begun, at(2024, 4, 401), api.ErrRange},
		{ended, at(2025, 1, 12), api.OK},
		{ended, at(2025, 1, 1), api.OK}, // another year may have others
		{ended, at(2025, 1, 400), api.OK},
		{ended, at(2025, 2, 12), api.ErrOrder},
		{ended, at(2026, 1, 12), api.ErrOrder},
		{ended, at(2024, 1, 12), api.ErrOrder},
		{ended, at(2023, 1, 12), api.ErrOrder},
		{ended, at(2024, 12, 12), api.ErrOrder},
		{ended, at(2024, 13, 13), api.ErrOrder},
		{ended, at(2024, 13, 12), api.ErrRange},
		{other, at(2025, 1, 1), api.OK},
		{other, at(2024, 2, 2), api.ErrOrder},
		{last, at(2200, 1, 4), api.ErrRange},
		{last, at(2199, 1, 4), api.ErrOrder},
		{long, at(2024, 400, 400), api.OK},
		{long, at(2024, 1, 400), api.ErrOrder},
	} {
		now, got, e := x.s.Step(x.m)
		what := fmt.Sprint(x.m.Year, " ", x.m.Index, " of ", x.m.Of, " behind ", x.s.Text())
		check(t, what, e, x.wanted)
		if e != api.OK {
			check(t, "state, "+what, now.Text(), x.s.Text())
			checkSame(t, "beside the error, "+what, got, api.Slip{})
		} else {
			check(t, "state, "+what, now.Text(), fmt.Sprintln("last", x.m.Year, x.m.Index, x.m.Of))
			checkSame(t, "slip, "+what, got, api.Slip{Year: x.m.Year, Index: x.m.Index})
		}
	}
}

// fault is something that makes a Month wrong, told in the rank-th place.
type fault struct {
	rank   int
	put    func(*api.Month)
	wanted api.Errno
}

// faults are some of each rank, put into whole(2024, 2) behind a state of whole(2024, 1).
func faults() []fault {
	all := int(most)
	return []fault{
		{0, func(m *api.Month) { m.Year = 1899 }, api.ErrRange},
		{0, func(m *api.Month) { m.Of = 401 }, api.ErrRange},
		{0, func(m *api.Month) { m.Index = 0 }, api.ErrRange},
		{1, func(m *api.Month) { m.Index = 1 }, api.ErrOrder},
		{1, func(m *api.Month) { m.Of = 3 }, api.ErrOrder},
		{1, func(m *api.Month) { m.Year = 2025 }, api.ErrOrder},
		{2, func(m *api.Month) { m.Gross = make([]api.Item, 65) }, api.ErrMany},
		{2, func(m *api.Month) { m.Gross = items("A", all+1, "a", all+1) }, api.ErrName}, // ahead of its ErrRange
		{2, func(m *api.Month) { m.Gross = items("a", all+1, "", 5) }, api.ErrRange},     // item by item
		{2, func(m *api.Month) { m.Gross = items("a", 5, "a", -all-1) }, api.ErrRange},
		{2, func(m *api.Month) { m.Gross = items("a", all, "a", all, "-", 5) }, api.ErrName}, // ahead of their sum
		{3, func(m *api.Month) { m.After = make([]api.Item, 65) }, api.ErrMany},
		{3, func(m *api.Month) { m.After = items("a b", -1, "a", -1) }, api.ErrName},
		{3, func(m *api.Month) { m.After = items("a", -1, "", 5) }, api.ErrRange},
		{3, func(m *api.Month) { m.After = items("a", 5, "a", all+1) }, api.ErrRange},
		{4, func(m *api.Month) { m.Gross = items("a", all, "b", 1, "c", -1) }, api.ErrOverflow}, // one by one
		{4, func(m *api.Month) { m.Gross = items("a", -all, "b", -1) }, api.ErrOverflow},
		{5, func(m *api.Month) { m.Limits = make([]api.Limit, 65) }, api.ErrMany},
		{5, func(m *api.Month) { m.Limits = []api.Limit{{Code: "a"}, {Code: "a"}} }, api.ErrTwice},
		{5, func(m *api.Month) { m.Before = items("", 5) }, api.ErrName},
		{5, func(m *api.Month) { m.Before = items("a", -1) }, api.ErrRange},
		{6, func(m *api.Month) { m.Schemes = make([]api.Scheme, 65) }, api.ErrMany},
		{6, func(m *api.Month) { m.Schemes = []api.Scheme{{Code: "a"}, {Code: "a"}} }, api.ErrTwice},
		{6, func(m *api.Month) { m.Schemes = []api.Scheme{{Code: "A"}} }, api.ErrName},
		{6, func(m *api.Month) { m.Schemes = []api.Scheme{{Code: "a", Worker: -1}} }, api.ErrRange},
		{7, func(m *api.Month) { m.Card.Allowance = -1 }, api.ErrRange},
		{7, func(m *api.Month) { m.Card.Bands = []api.Band{{From: 5}} }, api.ErrOrder},
		{7, func(m *api.Month) { m.Card.Bands = make([]api.Band, 65) }, api.ErrMany},
		{8, func(m *api.Month) { m.Orders = make([]api.Order, 65) }, api.ErrMany},
		{8, func(m *api.Month) { m.Orders = []api.Order{{Code: "a"}, {Code: "a"}} }, api.ErrTwice},
		{8, func(m *api.Month) { m.Orders = []api.Order{{Code: ""}} }, api.ErrName},
		{8, func(m *api.Month) { m.Orders = []api.Order{{Code: "a", Rank: 100}} }, api.ErrRange},
		{9, func(m *api.Month) { m.Gross = items("a", all, "b", -all, "a", all, "c", -all) }, api.ErrOverflow}, // a line
		{9, func(m *api.Month) { m.Gross = items("a", -all, "b", all, "a", -1) }, api.ErrOverflow},
	}
}

// TestP28_1Errors: each fault alone, and of each two the one that is told first.
func TestP28_1Errors(t *testing.T) {
	s := fold(t, whole(2024, 1))
	for i, first := range faults() {
		for j, second := range faults() {
			if first.rank >= second.rank && i != j {
				continue
			}
			m := whole(2024, 2)
			second.put(&m)
			first.put(&m)
			now, got, e := s.Step(m)
			what := fmt.Sprint("of faults ", i, " and ", j)
			check(t, "error "+what, e, first.wanted)
			checkSame(t, "beside the error "+what, got, api.Slip{})
			check(t, "state beside the error "+what, now.Text(), s.Text())
		}
	}
	_, got, e := s.Step(whole(2024, 2))
	check(t, "error without a fault", e, api.OK)
	check(t, "lines without a fault", len(got.Lines), 8)
}

// TestP28_1Codes: what is a name, of Gross and After.
func TestP28_1Codes(t *testing.T) {
	for code, wanted := range map[string]api.Errno{
		"a": api.OK, "-a": api.OK, "--": api.OK, ".": api.OK, "_": api.OK, "0": api.OK, strings.Repeat("z", 32): api.OK,
		"": api.ErrName, "-": api.ErrName, "A": api.ErrName, "a b": api.ErrName, "ä": api.ErrName, "a\n": api.ErrName, strings.Repeat("z", 33): api.ErrName,
	} {
		gross, after := at(2024, 1, 12), at(2024, 1, 12)
		gross.Gross, after.After = items(code, 5), items(code, 5)
		_, _, e := year.State{}.Step(gross)
		check(t, fmt.Sprintf("gross %q", code), e, wanted)
		_, _, e = year.State{}.Step(after)
		check(t, fmt.Sprintf("after %q", code), e, wanted)
	}
	for c, wanted := range map[int][2]api.Errno{
		0: {}, int(most): {}, -1: {api.OK, api.ErrRange}, -int(most): {api.OK, api.ErrRange},
		int(most) + 1: {api.ErrRange, api.ErrRange}, -int(most) - 1: {api.ErrRange, api.ErrRange}, lowest: {api.ErrRange, api.ErrRange}, highest: {api.ErrRange, api.ErrRange},
	} {
		gross, after := at(2024, 1, 12), at(2024, 1, 12)
		gross.Gross, after.After = items("a", c), items("a", c)
		_, _, e := year.State{}.Step(gross)
		check(t, fmt.Sprint("gross ", c), e, wanted[0])
		_, _, e = year.State{}.Step(after)
		check(t, fmt.Sprint("after ", c), e, wanted[1])
	}
}

// TestP28_1Far: amounts at the limits, and what is left then.
func TestP28_1Far(t *testing.T) {
	all := int(most)
	whole := []api.Scheme{{Code: "a", Worker: 1000000}, {Code: "b", Worker: 1000000}, {Code: "c", Worker: 1}}
	for _, x := range []struct {
		m      api.Month
		wanted api.Errno
	}{
		{api.Month{Gross: items("a", all)}, api.OK},
		{api.Month{Gross: items("a", -all)}, api.OK},
		{api.Month{Gross: items("a", all), Before: items("a", all), Schemes: whole[:1], After: items("a", all), Orders: []api.Order{{Code: "a", Rate: 1000000}}}, api.OK},
		{api.Month{Gross: items("a", all), Schemes: whole[:2]}, api.OK},   // -2^50 is left
		{api.Month{Gross: items("a", all), Schemes: whole}, api.ErrRange}, // less: layer 26's error, also without orders
		{api.Month{Gross: items("a", -all), Card: api.Card{Extra: 0}}, api.OK},
		{api.Month{Gross: items("a", -all), Card: api.Card{Extra: 1}}, api.ErrRange},
		{api.Month{Gross: items("a", -all, "b", 1), Card: api.Card{Extra: 1}}, api.OK},
		{api.Month{Gross: items("a", all), Schemes: whole, Orders: []api.Order{{}}}, api.ErrRange}, // ahead of the orders' own
		{api.Month{Gross: items("a", all, "b", -1), Card: api.Card{Extra: most, Bands: []api.Band{{Rate: 1}}}}, api.ErrOverflow},
	} {
		x.m.Year, x.m.Index, x.m.Of = 2024, 1, 12
		_, _, e := year.State{}.Step(x.m)
		check(t, fmt.Sprint("error of ", x.m), e, x.wanted)
	}
}

// TestP28_1Full: the errors of sums that would be above the limits, of a year and of orders.
func TestP28_1Full(t *testing.T) {
	first := at(2024, 1, 2)
	first.Gross = items("a", int(most))
	first.Before = items("pension", int(most))
	first.Schemes = []api.Scheme{{Code: "old"}}
	s := fold(t, first)
	for _, x := range []struct {
		gross   api.Cents
		before  int
		schemes []api.Scheme
		wanted  api.Errno
	}{
		{1, 0, nil, api.OK},
		{1, 1, nil, api.ErrOverflow},
		{0, 1, nil, api.OK}, // of nothing nothing is taken
		{1, 0, first.Schemes, api.ErrOverflow},
		{-1, 0, first.Schemes, api.OK},
		{1, 0, []api.Scheme{{Code: "other"}}, api.OK},
	} {
		m := at(2024, 2, 2)
		m.Gross, m.Before, m.Schemes = []api.Item{{Code: "a", Cents: x.gross}}, items("pension", x.before), x.schemes
		_, _, e := s.Step(m)
		check(t, fmt.Sprint("error behind a full year of ", m), e, x.wanted)
	}
	paid := at(2024, 1, 1)
	paid.Gross, paid.Orders = items("a", int(most)), []api.Order{{Code: "loan", Rate: 1000000}}
	s = fold(t, paid)
	paid.Year, paid.Gross = 2025, items("a", 1)
	_, _, e := s.Step(paid)
	check(t, "error of an order that has taken all there is, years ago", e, api.ErrOverflow)
	paid.Orders[0].Total = most
	_, _, e = s.Step(paid)
	check(t, "error of one that is paid", e, api.OK)
}

func TestP28_1ByWords(t *testing.T) {
	r := rand.New(rand.NewSource(2811))
	seen := map[api.Errno]int{}
	for i := range 4000 {
		bits := []int{8, 20, 46}[i%3]
		var s year.State
		var p plain
		of := 1 + r.Intn(4)
		place := at(2020, 1+r.Intn(of), of)
		for range 12 {
			m := someMonth(r, place, bits, true)
			if r.Intn(40) == 0 {
				m.Year, m.Index, m.Of = m.Year+r.Intn(3)-1, m.Index+r.Intn(3)-1, m.Of+r.Intn(3)-1
			}
			now, got, e := s.Step(m)
			wanted, wantedSlip, wantedE := p.step(m)
			what := fmt.Sprintf("of %+v behind %q", m, s.Text())
			check(t, "error "+what, e, wantedE)
			checkSame(t, "slip "+what, got, wantedSlip)
			check(t, "text "+what, now.Text(), wanted.text())
			if e == api.OK {
				place = next(r, at(m.Year, m.Index, m.Of))
				check(t, "what is wrong with the slip "+what, slip.Check(got), api.OK)
			}
			s, p = now, wanted
			seen[e]++
		}
	}
	for _, e := range []api.Errno{api.OK, api.ErrRange, api.ErrOrder, api.ErrName, api.ErrTwice, api.ErrOverflow} {
		check(t, fmt.Sprint("error ", e, " is come to"), seen[e] > 50, true)
	}
}

func TestP28_2Fold(t *testing.T) {
	got, s, e := year.Fold()
	check(t, "error of none", e, api.OK)
	check(t, "slips of none", len(got), 0)
	check(t, "state of none", s.Text(), "")
	begun := fold(t, whole(2024, 1))
	got, s, e = year.Resume(begun)
	check(t, "error of no more", e, api.OK)
	check(t, "slips of no more", len(got), 0)
	check(t, "state of no more", s.Text(), begun.Text())
	r := rand.New(rand.NewSource(2821))
	for range 500 {
		l := someMonths(r, 1+r.Intn(8), 20)
		got, s, e := year.Fold(l...)
		check(t, "error of Fold", e, api.OK)
		var now year.State
		var wanted []api.Slip
		for _, m := range l {
			behind, told, e := now.Step(m)
			check(t, "error of Step", e, api.OK)
			now, wanted = behind, append(wanted, told)
		}
		checkAll(t, "step by step", got, wanted)
		check(t, "the last one's state", s.Text(), now.Text())
	}
}

// TestP28_2Errors: the first one's error; no slips, and the state that was handed in, also where Months ahead of it are right.
func TestP28_2Errors(t *testing.T) {
	begun := fold(t, whole(2024, 1))
	nameless := whole(2025, 1)
	nameless.Gross = items("", 5)
	for _, x := range []struct {
		l      []api.Month
		wanted api.Errno
	}{
		{[]api.Month{whole(2024, 1)}, api.ErrOrder},
		{[]api.Month{whole(2024, 2), whole(2024, 2)}, api.ErrOrder},
		{[]api.Month{whole(2024, 2), nameless, {}}, api.ErrName},
		{[]api.Month{whole(2024, 2), {}, nameless}, api.ErrRange},
		{[]api.Month{whole(2024, 2), whole(2025, 1), nameless}, api.ErrOrder},
		{make([]api.Month, 4096), api.ErrRange},
		{make([]api.Month, 4097), api.ErrMany}, // ahead of all Steps
	} {
		got, s, e := year.Resume(begun, x.l...)
		check(t, "error of Resume", e, x.wanted)
		check(t, "slips beside it", len(got), 0)
		check(t, "state beside it", s.Text(), begun.Text())
		_, told, e := s.Step(whole(2024, 2))
		check(t, "error of the next one behind it", e, api.OK)
		check(t, "lines of the next one behind it", len(told.Lines), 8)
	}
	got, s, e := year.Fold(whole(2024, 1), whole(2025, 1))
	check(t, "error of Fold", e, api.ErrOrder)
	check(t, "slips beside the error of Fold", len(got), 0)
	check(t, "state beside the error of Fold", s.Text(), "")
	_, _, e = year.Fold(make([]api.Month, 4097)...)
	check(t, "error of Fold of too many", e, api.ErrMany)
}

// TestP28_2Many: as many Months as there may be.
func TestP28_2Many(t *testing.T) {
	var l []api.Month
	for i := range 4097 {
		m := at(1900+i/400, 1+i%400, 400)
		m.Gross = items("a", 100)
		m.Orders = []api.Order{{Code: "b", Fixed: 1}}
		l = append(l, m)
	}
	got, s, e := year.Fold(l[:4096]...)
	check(t, "error of as many as there may be", e, api.OK)
	check(t, "slips of as many", len(got), 4096)
	check(t, "state of as many", s.Text(), "last 1910 96 400\ntax 96.00 0.00\norder b 40.96\n")
	_, s, e = year.Resume(s, l[4096])
	check(t, "error of one more behind them", e, api.OK)
	check(t, "state of one more", s.Text(), "last 1910 97 400\ntax 97.00 0.00\norder b 40.97\n")
	_, s, e = year.Fold(l...)
	check(t, "error of one more than that", e, api.ErrMany)
	check(t, "state beside it", s.Text(), "")
}

func TestP28_3Text(t *testing.T) {
	for _, x := range []struct {
		m      api.Month
		wanted string
	}{
		{api.Month{}, ""},
		{api.Month{Gross: items("a", 0), Before: items("a", 5), Schemes: []api.Scheme{{Code: "a", Worker: 5}}, Orders: []api.Order{{Code: "a", Fixed: 5}}}, ""}, // sums of 0
		{api.Month{Gross: items("a", 100), Schemes: []api.Scheme{{Code: "b"}}}, "social b 1.00 1.00 0.00 0.00\ntax 1.00 0.00\n"},
		{api.Month{Gross: items("a", -100), Schemes: []api.Scheme{{Code: "b", Worker: 500000}}}, "social b -1.00 0.00 0.00 0.00\ntax -1.00 0.00\n"},
		{api.Month{Gross: items("a", 100), Before: items("b", 100)}, "before b 1.00\n"}, // nothing is left to be taxed
		{api.Month{Gross: items("a", 100), Before: items("a_", 1, "a0", 2, "a", 3, "a-", 4, "a0", 5)}, "before a 0.03\nbefore a- 0.04\nbefore a0 0.07\nbefore a_ 0.01\ntax 0.85 0.00\n"},
		{api.Month{Gross: items("a", 100), Orders: []api.Order{{Code: "z", Fixed: 1}, {Code: "b", Rank: 9, Fixed: 2}, {Code: "c"}}}, "tax 1.00 0.00\norder b 0.02\norder z 0.01\n"},
		{api.Month{Gross: items("a", 100), Schemes: []api.Scheme{{Code: "z", Worker: 10000, Firm: 20000, Ceiling: 50}, {Code: "b", Firm: 1000000}}}, "social b 1.00 1.00 0.00 1.00\nsocial z 1.00 0.50 0.01 0.01\ntax 1.00 0.00\n"},
		{api.Month{Gross: items("a", 100), Card: api.Card{Extra: 5, Bands: []api.Band{{Rate: 500000}}}}, "tax 1.00 0.50\n"}, // without Extra
		{api.Month{Card: api.Card{Extra: 5}, After: items("a", 5)}, ""},
	} {
		x.m.Year, x.m.Index, x.m.Of = 2024, 3, 12
		check(t, fmt.Sprint("Text behind ", x.m), fold(t, x.m).Text(), "last 2024 3 12\n"+x.wanted)
	}
	check(t, "Text of the zero State", year.State{}.Text(), "")
	check(t, "Text behind the last period", fold(t, at(2199, 400, 400)).Text(), "last 2199 400 400\n")
}

// TestP28_4Resumed: a fold that is resumed anywhere is the fold from the start.
func TestP28_4Resumed(t *testing.T) {
	r := rand.New(rand.NewSource(2841))
	for range 1000 {
		l := someMonths(r, 1+r.Intn(10), 20)
		wanted, s, e := year.Fold(l...)
		check(t, "error of all", e, api.OK)
		for cut := range len(l) + 1 {
			first, now, e := year.Fold(l[:cut]...)
			check(t, "error of the first ones", e, api.OK)
			more, now, e := year.Resume(now, l[cut:]...)
			check(t, "error of the others", e, api.OK)
			checkAll(t, fmt.Sprint("resumed behind ", cut), slices.Concat(first, more), wanted)
			check(t, fmt.Sprint("state, resumed behind ", cut), now.Text(), s.Text())
		}
	}
}

// TestP28_4Net: a slip's net is the gross less what is held, and no order takes what isn't there.
func TestP28_4Net(t *testing.T) {
	r := rand.New(rand.NewSource(2842))
	for range 1000 {
		l, _, e := year.Fold(someMonths(r, 8, 20)...)
		check(t, "error", e, api.OK)
		for _, s := range l {
			gross, held, net, _, e := slip.Sums(s)
			check(t, fmt.Sprint("error of Sums of ", s), e, api.OK)
			check(t, fmt.Sprint("net of ", s), net, gross-held)
			if len(slip.Part(s, api.Orders)) > 0 {
				check(t, fmt.Sprint("net behind orders of ", s), net >= 0, true)
			}
		}
	}
}

// TestP28_4Alike: two states with one text go on alike, whatever else came ahead of them.
func TestP28_4Alike(t *testing.T) {
	r := rand.New(rand.NewSource(2843))
	for range 2000 {
		l := someMonths(r, 2+r.Intn(6), 20)
		cut := 1 + r.Intn(len(l)-1)
		other := slices.Clone(l[:cut])
		for i, m := range other { // what takes nothing
			m = clone(m)
			m.Before = append(m.Before, items("zero", 0)...)
			m.Orders = append(m.Orders, api.Order{Code: "none", Fixed: 5, Protect: most})
			m.Gross = append(m.Gross, items("x", 5, "x", -5)...)
			if i == 0 && sumOf(m.Gross) == 0 {
				m.Schemes = append(m.Schemes, api.Scheme{Code: "none", Worker: 5})
			}
			other[i] = m
		}
		s, u := fold(t, l[:cut]...), fold(t, other...)
		check(t, "text", u.Text(), s.Text())
		got, s, e := year.Resume(s, l[cut:]...)
		alike, u, f := year.Resume(u, l[cut:]...)
		check(t, "errors", e == api.OK && f == api.OK, true)
		checkAll(t, "going on", alike, got)
		check(t, "text behind", u.Text(), s.Text())
	}
}

// TestMemory: what is handed in stays as it was, spare room included; states that were taken ahead stay as they were; what is answered is new.
func TestMemory(t *testing.T) {
	m := whole(2024, 1)
	kept := fmt.Sprint(clone(m))
	short := m
	short.Gross, short.Before, short.After = append(m.Gross, items("x", 1)...)[:2], append(m.Before, items("x", 1)...)[:1], append(m.After, items("x", 1)...)[:1]
	short.Limits, short.Schemes, short.Orders = append(m.Limits, api.Limit{})[:1], append(m.Schemes, api.Scheme{})[:1], append(m.Orders, api.Order{})[:1]
	first, told, e := year.State{}.Step(short)
	check(t, "error", e, api.OK)
	text := first.Text()
	check(t, "the Month", fmt.Sprint(m), kept)
	check(t, "the Month that was handed in", fmt.Sprint(short), kept)
	check(t, "its spare room", short.Gross[:3][2].Cents+short.Before[:2][1].Cents+short.After[:2][1].Cents, 3)
	short.Gross[0].Cents, short.Orders[0].Fixed, short.Card.Bands[0].Rate, short.Schemes[0].Worker = 7, 7, 7, 7 // what was handed in isn't kept
	check(t, "the state behind it", first.Text(), text)
	told.Lines[0].Cents = 7
	_ = append(told.Lines[:1], api.Line{})
	second, _, e := first.Step(whole(2024, 2))
	check(t, "error of the second one", e, api.OK)
	_, again, _ := first.Step(whole(2024, 2))
	_, _, e = first.Step(whole(2024, 1))
	check(t, "error of a wrong one", e, api.ErrOrder)
	check(t, "the first state", first.Text(), text)
	check(t, "the second state", strings.Contains(second.Text(), "order loan 381.00\n"), true)
	checkSame(t, "the second slip, again", again, api.Slip{Year: 2024, Index: 2, Lines: lines(0, "bonus", 10000, 0, "salary", 90000, 1, "pension", 5000, 2, "old", 5000, 3, "tax", 17000, 4, "canteen", 5000, 5, "loan", 20400, 6, "old", 6000)})
	l, _, _ := year.Resume(first, whole(2024, 2), whole(2025, 1))
	more, _, _ := year.Resume(first, whole(2024, 2), whole(2025, 1))
	l[0].Lines[0].Cents, l[1] = 7, api.Slip{}
	check(t, "slips that were told twice", more[0].Lines[0].Cents == 10000 && more[1].Year == 2025, true)
}

// TestP1NoPanic hands each call what is farthest out.
func TestP1NoPanic(t *testing.T) {
	far := []int{lowest, lowest + 1, -int(most) - 1, -int(most), -1, 0, 1, int(most), int(most) + 1, highest - 1, highest}
	for _, a := range far {
		for _, b := range far {
			for _, c := range far {
				m := whole(2024, 1)
				m.Gross[0].Cents, m.Before[0].Cents, m.After[0].Cents = api.Cents(a), api.Cents(b), api.Cents(c)
				m.Card.Allowance, m.Card.Extra, m.Orders[0].Fixed = api.Cents(a), api.Cents(b), api.Cents(c)
				n := whole(2024, 1)
				n.Gross[0].Cents, n.Gross[1].Cents, n.Card.Extra = api.Cents(a), api.Cents(b), api.Cents(c)
				for _, m := range []api.Month{m, n, at(a, b, c)} {
					s, _, _ := year.State{}.Step(m)
					_, _, _ = s.Step(m)
					_, s, _ = year.Fold(m, m)
					_ = s.Text()
				}
			}
		}
	}
}
