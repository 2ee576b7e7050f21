package cents_test

import (
	"fmt"
	"math"
	"slices"
	"strings"
	"testing"

	"wagebook/api"
	"wagebook/cents"
)

const (
	most    = api.Cents(1 << 50)
	lowest  = api.Cents(math.MinInt64)
	highest = api.Cents(math.MaxInt64)
)

// edges are amounts about which something may go wrong, those that don't fit among them.
func edges() []api.Cents {
	return []api.Cents{
		lowest, lowest + 1, -1 << 62, -most - 1, -most, -most + 1, -most / 2, -100001, -101, -100, -99, -10, -9, -1,
		0, 1, 9, 10, 99, 100, 101, 999, 100001, most / 2, most - 1, most, most + 1, 1 << 62, highest - 1, highest,
	}
}

// check fails the test, if a call's amount and error are others than were wanted.
func check(t *testing.T, what string, got api.Cents, e api.Errno, wanted api.Cents, wantedE api.Errno) {
	t.Helper()
	if got != wanted || e != wantedE {
		t.Errorf("%s: %d, error %d; wanted %d, error %d", what, got, e, wanted, wantedE)
	}
}

func TestP1_1Fits(t *testing.T) {
	for c, wanted := range map[api.Cents]bool{
		0: true, 1: true, -1: true, most: true, -most: true,
		most + 1: false, -most - 1: false, highest: false, lowest: false,
	} {
		if cents.Fits(c) != wanted {
			t.Errorf("Fits(%d): %v", c, !wanted)
		}
	}
}

func TestP1_1Add(t *testing.T) {
	for _, x := range []struct {
		a, b, wanted api.Cents
		e            api.Errno
	}{
		{0, 0, 0, api.OK},
		{2, 3, 5, api.OK},
		{2, -3, -1, api.OK},
		{most, 0, most, api.OK},
		{most, -most, 0, api.OK},
		{most - 1, 1, most, api.OK},
		{-most + 1, -1, -most, api.OK},
		{most, 1, 0, api.ErrOverflow},
		{1, most, 0, api.ErrOverflow},
		{-most, -1, 0, api.ErrOverflow},
		{most, most, 0, api.ErrOverflow},
		{-most, -most, 0, api.ErrOverflow},
		{most + 1, -1, 0, api.ErrRange},
		{-1, most + 1, 0, api.ErrRange},
		{-most - 1, 1, 0, api.ErrRange},
		{1, -most - 1, 0, api.ErrRange},
		{most + 1, most, 0, api.ErrRange},
		{highest, highest, 0, api.ErrRange},
		{lowest, lowest, 0, api.ErrRange},
	} {
		got, e := cents.Add(x.a, x.b)
		check(t, fmt.Sprintf("Add(%d, %d)", x.a, x.b), got, e, x.wanted, x.e)
	}
}

func TestP1_1Sub(t *testing.T) {
	for _, x := range []struct {
		a, b, wanted api.Cents
		e            api.Errno
	}{
		{0, 0, 0, api.OK},
		{2, 3, -1, api.OK},
		{2, -3, 5, api.OK},
		{most, most, 0, api.OK},
		{-most, -most, 0, api.OK},
		{0, most, -most, api.OK},
		{0, -most, most, api.OK},
		{-most + 1, 1, -most, api.OK},
		{most - 1, -1, most, api.OK},
		{most, -1, 0, api.ErrOverflow},
		{-most, 1, 0, api.ErrOverflow},
		{-1, most, 0, api.ErrOverflow},
		{most, -most, 0, api.ErrOverflow},
		{most + 1, 1, 0, api.ErrRange},
		{1, most + 1, 0, api.ErrRange},
		{-most - 1, -1, 0, api.ErrRange},
		{-1, -most - 1, 0, api.ErrRange},
		{-most - 1, most, 0, api.ErrRange},
		{0, lowest, 0, api.ErrRange},
		{lowest, highest, 0, api.ErrRange},
	} {
		got, e := cents.Sub(x.a, x.b)
		check(t, fmt.Sprintf("Sub(%d, %d)", x.a, x.b), got, e, x.wanted, x.e)
	}
}

func TestP1_1Sum(t *testing.T) {
	for _, x := range []struct {
		l      []api.Cents
		wanted api.Cents
		e      api.Errno
	}{
		{nil, 0, api.OK},
		{[]api.Cents{}, 0, api.OK},
		{[]api.Cents{-7}, -7, api.OK},
		{[]api.Cents{1, 2, 3, -10}, -4, api.OK},
		{[]api.Cents{most, -1, 1}, most, api.OK},
		{[]api.Cents{most, 1, -1}, 0, api.ErrOverflow},
		{[]api.Cents{-most, -1, 1}, 0, api.ErrOverflow},
		{[]api.Cents{most + 1}, 0, api.ErrRange},
		{[]api.Cents{most, most + 1}, 0, api.ErrRange},
		{[]api.Cents{most, 1, most + 1}, 0, api.ErrOverflow},
		{[]api.Cents{1, -most - 1, most, most}, 0, api.ErrRange},
		{[]api.Cents{highest, lowest}, 0, api.ErrRange},
	} {
		before := slices.Clone(x.l)
		got, e := cents.Sum(x.l...)
		check(t, fmt.Sprint("Sum of ", x.l), got, e, x.wanted, x.e)
		if !slices.Equal(x.l, before) {
			t.Errorf("Sum changed %v to %v", before, x.l)
		}
	}
	many := make([]api.Cents, 5000)
	for i := range many {
		many[i] = api.Cents(i)
	}
	got, e := cents.Sum(many...)
	check(t, "Sum of many", got, e, 5000*4999/2, api.OK)
}

func TestP1_2LeastGreatest(t *testing.T) {
	l := edges()
	for i, a := range l {
		for j, b := range l { // edges rise
			if got := cents.Least(a, b); got != l[min(i, j)] {
				t.Errorf("Least(%d, %d): %d", a, b, got)
			}
			if got := cents.Greatest(a, b); got != l[max(i, j)] {
				t.Errorf("Greatest(%d, %d): %d", a, b, got)
			}
		}
	}
}

func TestP1_2Clamp(t *testing.T) {
	for _, x := range []struct{ c, least, most, wanted api.Cents }{
		{5, 0, 10, 5}, {0, 0, 10, 0}, {10, 0, 10, 10}, {-1, 0, 10, 0}, {11, 0, 10, 10}, {3, 3, 3, 3}, {9, 3, 3, 3}, {1, 3, 3, 3},
		{5, 10, 0, 10}, {-5, 10, 0, 10}, {15, 10, 0, 10}, {10, 10, 9, 10}, {-15, -10, -20, -10},
		{lowest, highest, lowest, highest}, {highest, lowest, 0, 0}, {lowest, 0, highest, 0}, {7, lowest, highest, 7},
	} {
		if got := cents.Clamp(x.c, x.least, x.most); got != x.wanted {
			t.Errorf("Clamp(%d, %d, %d): %d, wanted %d", x.c, x.least, x.most, got, x.wanted)
		}
	}
}

func TestP1_3Text(t *testing.T) {
	for c, wanted := range map[api.Cents]string{
		0: "0.00", 1: "0.01", -1: "-0.01", -5: "-0.05", 9: "0.09", 10: "0.10", 99: "0.99", 100: "1.00", -100: "-1.00",
		101: "1.01", 999: "9.99", 1000: "10.00", 123450: "1234.50", -123405: "-1234.05", 100000000: "1000000.00",
		most: "11258999068426.24", -most: "-11258999068426.24", most - 1: "11258999068426.23",
		most + 1: "", -most - 1: "", highest: "", lowest: "",
	} {
		if got := cents.Text(c); got != wanted {
			t.Errorf("Text(%d): %q, wanted %q", c, got, wanted)
		}
	}
}

func TestP1_3Parse(t *testing.T) {
	for s, wanted := range map[string]api.Cents{
		"0.00": 0, "0.01": 1, "-0.01": -1, "-0.05": -5, "0.10": 10, "1.00": 100, "-1.00": -100, "10.00": 1000,
		"1234.50": 123450, "11258999068426.24": most, "-11258999068426.24": -most, "9999999999999.99": 999999999999999,
	} {
		got, e := cents.Parse(s)
		check(t, "Parse "+s, got, e, wanted, api.OK)
	}
}

func TestP1_3ParseNone(t *testing.T) {
	for _, s := range []string{
		"", "-", ".", "-.", ".0", ".00", "-.00", ".05", "-.05", "0", "-0", "00", "000", "0000", "1", "12", "100", "1234",
		"0.", "0.0", "1.", "1.0", "1.5", "0.000", "1.000", "1.234", "12.3", "-0.00", "--0.01", "--1.00", "-+1.00", "+1.00", "+0.00",
		"00.00", "00.01", "01.00", "-01.00", "-00.01", "000.00", "1,00", "1.0a", "1.a0", "a.00", "1a.00", "a1.00", "1.-1", "1.+1",
		" 1.00", "1.00 ", "1 .00", "1. 00", "1.00\n", "\x001.00", "1.00\x00", "1.2.00", "1..00", "1.00.", "1.00-", "1-.00",
		"1e3.00", "0x1.00", "1_000.00", "1,000.00", "1/.00", "1:.00", "1./0", "1.0:", "NaN", "Inf",
		"٣.٠٠", "１.００", "1.0\xff", "\xff.00", "−1.00",
		"11258999068426.25", "-11258999068426.25", "11258999068427.00", "11258999068430.00", "20000000000000.00", "100000000000000.00",
		"92233720368547758.07", "92233720368547758.08", "-92233720368547758.08", "184467440737095516.16", "184467440737095516.17",
		"340282366920938463463374607431768211456.00", strings.Repeat("9", 5000) + ".00", "-1" + strings.Repeat("0", 5000) + ".00",
		strings.Repeat("0", 5000) + "1.00", "1." + strings.Repeat("0", 5000),
	} {
		got, e := cents.Parse(s)
		check(t, fmt.Sprintf("Parse(%.60q)", s), got, e, 0, api.ErrForm)
	}
}

// TestP1_3ParseShort goes through all short texts of the bytes that texts are made of: what is parsed is what has that text, and nothing else is parsed.
func TestP1_3ParseShort(t *testing.T) {
	texts := map[string]api.Cents{}
	for c := api.Cents(-9999); c <= 99999; c++ {
		texts[cents.Text(c)] = c
	}
	const letters = "-.019+"
	level := []string{""}
	for range 6 {
		var next []string
		for _, s := range level {
			wanted, is := texts[s]
			got, e := cents.Parse(s)
			if is {
				check(t, "Parse "+s, got, e, wanted, api.OK)
			} else {
				check(t, "Parse "+s, got, e, 0, api.ErrForm)
			}
			for i := range len(letters) {
				next = append(next, s+letters[i:i+1])
			}
		}
		level = next
	}
}

func TestP1_4AddAndSub(t *testing.T) {
	for _, a := range edges() {
		for _, b := range edges() {
			if sum, e := cents.Add(a, b); e == api.OK {
				back, e := cents.Sub(sum, b)
				check(t, fmt.Sprintf("%d with and without %d", a, b), back, e, a, api.OK)
			}
			if rest, e := cents.Sub(a, b); e == api.OK {
				back, e := cents.Add(rest, b)
				check(t, fmt.Sprintf("%d without and with %d", a, b), back, e, a, api.OK)
			}
		}
	}
}

func TestP1_4TextAndParse(t *testing.T) {
	round := func(c api.Cents) {
		got, e := cents.Parse(cents.Text(c))
		check(t, "Parse of Text", got, e, c, api.OK)
	}
	for c := api.Cents(-20000); c <= 20000; c++ {
		round(c)
		round(most - 20000 + c)
		round(20000 - most + c)
	}
	for c := api.Cents(1); c <= most; c = c*3 + 1 {
		round(c)
		round(-c)
	}
}

// TestP1NoPanic hands each call what is farthest out.
func TestP1NoPanic(t *testing.T) {
	for _, a := range edges() {
		cents.Fits(a)
		cents.Text(a)
		for _, b := range edges() {
			for _, c := range edges() {
				cents.Clamp(a, b, c)
				cents.Sum(a, b, c)
			}
		}
	}
	for b := range 256 {
		for _, s := range []string{"", "-", "1", "1.0", "1.00"} {
			cents.Parse(s + string([]byte{byte(b)}))
			cents.Parse(string([]byte{byte(b)}) + s)
		}
	}
}
