package band_test

import (
	"fmt"
	"math/rand"
	"slices"
	"strings"
	"testing"

	"wagebook/api"
	"wagebook/band"
)

func TestP21_1Check(t *testing.T) {
	for _, x := range []struct {
		l      []api.Band
		wanted api.Errno
	}{
		{nil, api.OK},
		{[]api.Band{}, api.OK},
		{table(0, 0), api.OK},
		{table(0, 1000000), api.OK},
		{table(0, 500000, 1, 0, 2, 1000000, 1<<50, 7), api.OK},
		{example(), api.OK},
		{many(64), api.OK},
		{many(65), api.ErrMany},
		{make([]api.Band, 65), api.ErrMany},
		{table(1, 0), api.ErrOrder},
		{table(-1, 0), api.ErrOrder},
		{table(lowest, 0), api.ErrOrder},
		{table(highest, 0), api.ErrOrder},
		{table(1, -1), api.ErrOrder},
		{table(0, 0, 0, 0), api.ErrOrder},
		{table(0, 0, -5, 0), api.ErrOrder},
		{table(0, 0, 5, 0, 5, 0), api.ErrOrder},
		{table(0, 0, 5, 0, 4, -1), api.ErrOrder},
		{table(0, 0, 1<<50+1, 0), api.ErrRange},
		{table(0, 0, highest, 0), api.ErrRange},
		{table(0, -1), api.ErrRange},
		{table(0, 1000001), api.ErrRange},
		{table(0, lowest), api.ErrRange},
		{table(0, highest), api.ErrRange},
		{table(0, 0, 5, 1000001, 5, 0), api.ErrRange}, // band by band
		{table(0, 0, 5, 0, 5, 0, 9, -1), api.ErrOrder},
		{table(0, 0, 1<<50+2, 0, 1<<50+1, 0), api.ErrRange},
	} {
		check(t, named("Check", x.l), band.Check(x.l...), x.wanted)
	}
	r := rand.New(rand.NewSource(2111))
	seen := map[api.Errno]int{}
	for range 5000 {
		l := spoilt(r, someTable(r, r.Intn(2) == 0))
		e := band.Check(l...)
		check(t, named("Check", l), e, checkByWords(l))
		seen[e]++
	}
	check(t, "each error is come to", seen[api.OK] > 50 && seen[api.ErrOrder] > 50 && seen[api.ErrRange] > 50, true)
}

func TestP21_1Of(t *testing.T) {
	half, third := table(0, 500000), table(0, 333333)
	for _, x := range []struct {
		c      api.Cents
		l      []api.Band
		wanted api.Cents
	}{
		{600000, example(), 120000},
		{0, example(), 0},
		{-1, example(), 0},
		{-most, example(), 0},
		{100000, example(), 0},
		{100002, example(), 0},
		{100003, example(), 1},
		{500000, example(), 80000},
		{500001, example(), 80000},
		{500002, example(), 80001},
		{1, half, 1}, // a half goes away from nought
		{2, half, 1},
		{3, half, 2}, // also from 1.5,
		{5, half, 3}, // and from 2.5
		{-1, half, 0},
		{-5, half, 0},
		{3, third, 1},
		{1, third, 0},
		{2, third, 1},
		{5, nil, 0},
		{most, nil, 0},
		{-most, nil, 0},
		{most, table(0, 0), 0},
		{most, table(0, 1000000), most},
		{most, table(0, 999999), 1125898780942717},
		{most, table(0, 0, 1<<50, 1000000), 0},
		{most, table(0, 0, 1<<50-1, 1000000), 1},
		{2, table(0, 250000, 1, 250000), 1}, // twice a quarter is rounded together
		{3, table(0, 400000, 1, 400000, 2, 400000), 1},
		{4, table(0, 400000, 1, 400000, 2, 400000), 2},
		{7, table(0, 1000000, 5, 0), 5},
		{64, many(64), 20}, // 20.16
	} {
		c, e := band.Of(x.c, x.l...)
		checkAmount(t, named(fmt.Sprint("Of ", x.c), x.l), c, e, x.wanted)
	}
	for _, x := range []struct {
		c      api.Cents
		l      []api.Band
		wanted api.Errno
	}{
		{most + 1, example(), api.ErrRange},
		{-most - 1, example(), api.ErrRange},
		{highest, nil, api.ErrRange},
		{lowest, nil, api.ErrRange},
		{most + 1, many(65), api.ErrMany},
		{most + 1, table(1, 0), api.ErrOrder},
		{5, table(1, 0), api.ErrOrder},
		{-5, table(0, 1000001), api.ErrRange},
		{0, many(65), api.ErrMany},
	} {
		c, e := band.Of(x.c, x.l...)
		checkRefused(t, named(fmt.Sprint("Of ", x.c), x.l), c, e, x.wanted)
	}
}

func TestP21_1CentByCent(t *testing.T) {
	r := rand.New(rand.NewSource(2112))
	for range 300 {
		l := someTable(r, true)
		for x := int64(-2); x < 220; x++ {
			c, e := band.Of(api.Cents(x), l...)
			checkAmount(t, named(fmt.Sprint("Of ", x), l), c, e, centByCent(x, 1, 1, l))
		}
	}
}

func TestP21_2Scaled(t *testing.T) {
	for _, x := range []struct {
		x         int64
		index, of int
		l         []api.Band
		wanted    api.Cents
	}{
		{600000, 1, 12, example(), 10000},
		{1200000, 2, 12, example(), 20000},
		{7200000, 12, 12, example(), 120000},
		{600000, 12, 12, example(), 0}, // no more than the first band holds
		{600000, 1, 1, example(), 120000},
		{1, 1, 2, table(0, 1000000), 1}, // half a cent
		{3, 1, 2, table(0, 1000000), 2},
		{1, 1, 3, table(0, 1000000), 0},
		{2, 1, 3, table(0, 1000000), 1},
		{199, 1, 400, table(0, 1000000), 0},
		{200, 1, 400, table(0, 1000000), 1},
		{3, 2, 2, table(0, 500000), 1}, // 0.75
		{7, 2, 2, table(0, 500000, 3, 1000000), 2},
		{8, 2, 2, table(0, 500000, 3, 1000000), 3}, // 3 of the first six, and 2: 2.5
		{399, 400, 400, table(0, 0, 1, 1000000), 0},
		{599, 400, 400, table(0, 0, 1, 1000000), 0},
		{600, 400, 400, table(0, 0, 1, 1000000), 1},
		{-1, 1, 12, example(), 0},
		{lowest, 400, 400, example(), 0},
		{0, 7, 12, example(), 0},
		{highest, 3, 12, nil, 0},
		{highest, 400, 400, table(0, 0), 0},
		{400 << 50, 400, 400, table(0, 0, 1<<50, 1000000), 0},
		{highest, 1, 400, table(0, 1), 23058430092}, // .1
		{int64(most), 1, 1, table(0, 1000000), most},
		{400 << 50, 1, 400, table(0, 1000000), most},
		{400<<50 + 199, 1, 400, table(0, 1000000), most},
	} {
		c, e := band.Scaled(x.x, x.index, x.of, x.l...)
		checkAmount(t, named(fmt.Sprint("Scaled ", x.x, x.index, x.of), x.l), c, e, x.wanted)
	}
	for _, x := range []struct {
		x         int64
		index, of int
		l         []api.Band
		wanted    api.Errno
	}{
		{5, 0, 12, example(), api.ErrRange},
		{5, -1, 12, example(), api.ErrRange},
		{5, 13, 12, example(), api.ErrRange},
		{5, 0, 0, example(), api.ErrRange},
		{5, 1, 0, example(), api.ErrRange},
		{5, -2, -1, example(), api.ErrRange},
		{5, 1, 401, example(), api.ErrRange},
		{5, 401, 401, example(), api.ErrRange},
		{5, lowest, highest, example(), api.ErrRange},
		{5, highest, highest, nil, api.ErrRange},
		{5, highest, lowest, nil, api.ErrRange},
		{-5, 0, 12, nil, api.ErrRange},
		{highest, 0, 12, table(0, 1000000), api.ErrRange},
		{5, 0, 12, table(1, 0), api.ErrOrder},
		{5, 1, 401, many(65), api.ErrMany},
		{-5, 1, 1, table(0, -1), api.ErrRange},
		{1<<50 + 1, 1, 1, table(0, 1000000), api.ErrOverflow},
		{400<<50 + 200, 1, 400, table(0, 1000000), api.ErrOverflow},
		{highest, 1, 1, table(0, 1000000), api.ErrOverflow},
		{highest, 1, 400, table(0, 1000000), api.ErrOverflow},
		{highest, 400, 400, table(0, 1000000), api.ErrOverflow},
		{1 << 62, 1, 1, example(), api.ErrOverflow},
	} {
		c, e := band.Scaled(x.x, x.index, x.of, x.l...)
		checkRefused(t, named(fmt.Sprint("Scaled ", x.x, x.index, x.of), x.l), c, e, x.wanted)
	}
}

// TestP21_2Periods: each number of periods there may be.
func TestP21_2Periods(t *testing.T) {
	for of := 1; of <= 402; of++ {
		for _, index := range []int{0, 1, 2, of - 1, of, of + 1} {
			c, e := band.Scaled(int64(index)*123456, index, of, example()...)
			wanted, wantedE := scaledByWords(int64(index)*123456, index, of, example())
			check(t, fmt.Sprint("error of ", index, " of ", of), e, wantedE)
			check(t, fmt.Sprint(index, " of ", of), c, wanted)
		}
	}
}

func TestP21_2ByWords(t *testing.T) {
	r := rand.New(rand.NewSource(2121))
	seen := map[api.Errno]int{}
	for range 30000 {
		l := someTable(r, r.Intn(3) == 0)
		if r.Intn(12) == 0 {
			l = spoilt(r, l)
		}
		of := 1 + r.Intn([]int{1, 12, 26, 400, 401}[r.Intn(5)])
		index := 1 + r.Intn(of)
		if r.Intn(30) == 0 {
			index = r.Intn(2) * (of + 1)
		}
		x := someAmount(r, index, l)
		c, e := band.Scaled(x, index, of, l...)
		wanted, wantedE := scaledByWords(x, index, of, l)
		what := named(fmt.Sprint("Scaled ", x, index, of), l)
		check(t, "error of "+what, e, wantedE)
		check(t, what, c, wanted)
		seen[e]++
		c, e = band.Of(api.Cents(x), l...)
		wanted, wantedE = scaledByWords(x, 1, 1, l)
		if checkByWords(l) == api.OK && (x > int64(most) || x < -int64(most)) {
			wanted, wantedE = 0, api.ErrRange
		}
		what = named(fmt.Sprint("Of ", x), l)
		check(t, "error of "+what, e, wantedE)
		check(t, what, c, wanted)
	}
	for _, e := range []api.Errno{api.OK, api.ErrOrder, api.ErrRange, api.ErrOverflow} {
		check(t, fmt.Sprint("error ", e, " is come to"), seen[e] > 50, true)
	}
	for range 200 {
		l := someTable(r, true)
		of := 1 + r.Intn(30)
		index := 1 + r.Intn(of)
		for x := int64(-2); x < 300; x += 1 + int64(r.Intn(9)) {
			c, e := band.Scaled(x, index, of, l...)
			checkAmount(t, named(fmt.Sprint("Scaled ", x, index, of), l), c, e, centByCent(x, index, of, l))
		}
	}
}

func TestP21_3Top(t *testing.T) {
	for _, x := range []struct {
		c      api.Cents
		l      []api.Band
		wanted api.Rate
	}{
		{-1, table(0, 7), 0},
		{lowest, table(0, 7), 0},
		{0, table(0, 7), 7},
		{highest, table(0, 7), 7},
		{99999, example(), 0},
		{100000, example(), 200000},
		{499999, example(), 200000},
		{500000, example(), 400000},
		{most, example(), 400000},
		{most + 1, example(), 400000},
		{5, table(0, 7, 5, 3), 3},
		{4, table(0, 7, 5, 3), 7},
		{9, table(0, 7, 5, 0), 0},
		{5, nil, 0},
		{63, many(64), 630000},
		{62, many(64), 620000},
		{63, many(65), 0},
		{5, table(1, 7), 0},
		{5, table(0, 7, 0, 7), 0},
		{5, table(0, 7, 9, 1000001), 0},
		{5, table(0, 7, 1<<50+1, 7), 0},
	} {
		check(t, named(fmt.Sprint("Top ", x.c), x.l), band.Top(x.c, x.l...), x.wanted)
	}
}

func TestP21_3Back(t *testing.T) {
	for _, x := range []struct {
		tax    api.Cents
		l      []api.Band
		wanted api.Cents
	}{
		{120000, example(), 599999},
		{0, example(), 0},
		{1, example(), 100003},
		{80000, example(), 499998},
		{80001, example(), 500002},
		{0, nil, 0},
		{0, table(0, 0), 0},
		{0, table(0, 1000000), 0},
		{1, table(0, 1000000), 1},
		{most, table(0, 1000000), most},
		{1, table(0, 500000), 1},
		{2, table(0, 500000), 3},
		{1 << 49, table(0, 500000), most - 1},
		{1, table(0, 0, 1<<50-1, 1000000), most},
		{1, table(0, 1), 500000},
		{5, table(0, 1000000, 5, 0), 5},
		{5, table(0, 1000000, 5, 0, 1<<50, 1000000), 5},
	} {
		c, e := band.Back(x.tax, x.l...)
		checkAmount(t, named(fmt.Sprint("Back ", x.tax), x.l), c, e, x.wanted)
	}
	for _, x := range []struct {
		tax    api.Cents
		l      []api.Band
		wanted api.Errno
	}{
		{1, nil, api.ErrNone},
		{most, nil, api.ErrNone},
		{1, table(0, 0), api.ErrNone},
		{6, table(0, 1000000, 5, 0), api.ErrNone},
		{1<<49 + 1, table(0, 500000), api.ErrNone},
		{most, example(), api.ErrNone},
		{2, table(0, 0, 1<<50-1, 1000000), api.ErrNone},
		{1, table(0, 0, 1<<50, 1000000), api.ErrNone},
		{-1, example(), api.ErrRange},
		{-1, nil, api.ErrRange},
		{lowest, nil, api.ErrRange},
		{most + 1, nil, api.ErrRange},
		{highest, table(0, 1000000), api.ErrRange},
		{-1, table(1, 0), api.ErrOrder},
		{-1, many(65), api.ErrMany},
		{0, table(0, -1), api.ErrRange},
		{0, table(0, 0, 0, 0), api.ErrOrder},
	} {
		c, e := band.Back(x.tax, x.l...)
		checkRefused(t, named(fmt.Sprint("Back ", x.tax), x.l), c, e, x.wanted)
	}
}

// TestP21_3Least: the least amount, found one by one.
func TestP21_3Least(t *testing.T) {
	r := rand.New(rand.NewSource(2131))
	for range 200 {
		l := someTable(r, true)
		for tax := range api.Cents(40) {
			if wanted, ok := backByWords(tax, 200, l); ok {
				c, e := band.Back(tax, l...)
				checkAmount(t, named(fmt.Sprint("Back ", tax), l), c, e, wanted)
			}
		}
	}
}

func TestP21_4Text(t *testing.T) {
	for _, x := range []struct {
		l      []api.Band
		wanted string
	}{
		{nil, ""},
		{table(0, 0), "0.00:0%"},
		{example(), "0.00:0% 1000.00:20% 5000.00:40%"},
		{table(0, 1, 1, 10, 5, 125000, 1<<50, 1000000), "0.00:0.0001% 0.01:0.001% 0.05:12.5% 11258999068426.24:100%"},
		{table(1, 0), ""},
		{table(0, 0, 0, 0), ""},
		{table(0, 1000001), ""},
		{table(0, 0, 1<<50+1, 0), ""},
		{many(65), ""},
	} {
		check(t, named("Text", x.l), band.Text(x.l...), x.wanted)
	}
	check(t, "Text of as many as there may be", strings.Count(band.Text(many(64)...), "%"), 64)
}

func TestP21_4Parse(t *testing.T) {
	word := strings.Repeat(" 0.00:0%", 70)[1:]
	for s, wanted := range map[string]api.Errno{
		"":                             api.OK,
		"0.00:0%":                      api.OK,
		"0.00:100%":                    api.OK,
		"0.00:0% 0.01:0%":              api.OK,
		"0.00:0% 11258999068426.24:1%": api.OK,
		"0.00":                         api.ErrForm,
		":":                            api.ErrForm,
		"0.00:":                        api.ErrForm,
		":0%":                          api.ErrForm,
		" ":                            api.ErrForm,
		" 0.00:0%":                     api.ErrForm,
		"0.00:0% ":                     api.ErrForm,
		"0.00:0%  1.00:0%":             api.ErrForm,
		"0.00:0%\t1.00:0%":             api.ErrForm,
		"0.00:0%\n":                    api.ErrForm,
		"0.00: 0%":                     api.ErrForm,
		"0.00 :0%":                     api.ErrForm,
		"0.00:0%:0%":                   api.ErrForm,
		"0.00::0%":                     api.ErrForm,
		"0:0%":                         api.ErrForm,
		"0.0:0%":                       api.ErrForm,
		"00.00:0%":                     api.ErrForm,
		"-0.00:0%":                     api.ErrForm,
		"0.00:-0%":                     api.ErrForm,
		"0.00:0":                       api.ErrForm,
		"0.00:0.0%":                    api.ErrForm,
		"0.00:01%":                     api.ErrForm,
		"0.00:0.00001%":                api.ErrForm,
		"0.00:0%,1.00:0%":              api.ErrForm,
		"0.00:0% 11258999068426.25:0%": api.ErrForm, // no amount has this text,
		"0.00:100000.0001%":            api.ErrForm, // no rate this one
		"0.00:99999999999999999999%":   api.ErrForm,
		"0.00:100000%":                 api.ErrRange,
		"0.00:100.0001%":               api.ErrRange,
		"0.00:-1%":                     api.ErrRange,
		"0.01:0%":                      api.ErrOrder,
		"-1.00:0%":                     api.ErrOrder,
		"0.00:0% 0.00:0%":              api.ErrOrder,
		"0.00:0% -1.00:0%":             api.ErrOrder,
		"0.00:1% 0.02:1% 0.01:101%":    api.ErrOrder,
		"0.00:1% 0.02:101% 0.01:1%":    api.ErrRange,
		"1.00:101% x":                  api.ErrForm, // the form of all is looked at ahead of what is told
		word:                           api.ErrMany,
		word + " x":                    api.ErrForm,
	} {
		l, e := band.Parse(s)
		check(t, fmt.Sprintf("error of Parse %.60q", s), e, wanted)
		by, wantedE := parseByWords(s)
		check(t, fmt.Sprintf("error, by words, of Parse %.60q", s), e, wantedE)
		check(t, fmt.Sprintf("Parse %.60q", s), fmt.Sprint(l), fmt.Sprint(by))
	}
	l, e := band.Parse("0.00:0% 1000.00:20% 5000.00:42.5%")
	check(t, "error", e, api.OK)
	check(t, "bands", fmt.Sprint(l), "[{0 0} {100000 200000} {500000 425000}]")
}

func TestP21_4BackAndForth(t *testing.T) {
	r := rand.New(rand.NewSource(2141))
	for range 5000 {
		l := someTable(r, r.Intn(2) == 0)
		if r.Intn(4) == 0 {
			l = spoilt(r, l)
		}
		s := band.Text(l...)
		check(t, named("Text", l), s, textByWords(l))
		if checkByWords(l) != api.OK {
			continue
		}
		read, e := band.Parse(s)
		check(t, "error of Parse "+s, e, api.OK)
		check(t, "Parse "+s, slices.Equal(read, l), true)
		turned := []byte(s)
		if len(turned) > 0 {
			turned[r.Intn(len(turned))] = ".:% -0129x"[r.Intn(10)]
		}
		read, e = band.Parse(string(turned))
		wanted, wantedE := parseByWords(string(turned))
		check(t, fmt.Sprintf("error of Parse %q", turned), e, wantedE)
		check(t, fmt.Sprintf("Parse %q", turned), slices.Equal(read, wanted), true)
		if e == api.OK {
			check(t, "what was parsed, again", band.Text(read...), string(turned))
		}
	}
}

// TestP21_5: of more never less is taken, of a cent more at most a cent more, and never more than there is; each tax is met, up to the greatest one.
func TestP21_5(t *testing.T) {
	r := rand.New(rand.NewSource(2151))
	for range 3000 {
		l := someTable(r, r.Intn(2) == 0)
		x := api.Cents(min(max(someAmount(r, 1, l), 0), int64(most)-1))
		less, e := band.Of(x, l...)
		check(t, "error", e, api.OK)
		more, e := band.Of(x+1, l...)
		check(t, "error", e, api.OK)
		check(t, named(fmt.Sprint("a cent more than ", x), l), more == less || more == less+1, true)
		check(t, named(fmt.Sprint("more than all of ", x), l), less <= x, true)
		top := greatest(t, l)
		tax := api.Cents(r.Int63n(int64(top) + 1))
		for _, tax := range []api.Cents{tax, less, top, 0} {
			c, e := band.Back(tax, l...)
			what := named(fmt.Sprint("Back ", tax), l)
			check(t, "error of "+what, e, api.OK)
			again, _ := band.Of(c, l...)
			check(t, what+", again", again, tax)
			if c > 0 {
				ahead, _ := band.Of(c-1, l...)
				check(t, what+", a cent less", ahead, tax-1)
			}
		}
		if top < most {
			c, e := band.Back(top+1, l...)
			checkRefused(t, named(fmt.Sprint("Back ", top+1), l), c, e, api.ErrNone)
		}
	}
}

// TestMemory: what is handed in stays as it was, spare room included; what is answered is new.
func TestMemory(t *testing.T) {
	l := append(example(), api.Band{From: -1, Rate: -1})
	kept := slices.Clone(l)
	given := l[:3]
	_ = band.Check(given...)
	_, _ = band.Of(600000, given...)
	_, _ = band.Scaled(600000, 1, 12, given...)
	_ = band.Top(600000, given...)
	_, _ = band.Back(600, given...)
	_ = band.Text(given...)
	check(t, "bands that were handed in", slices.Equal(l, kept), true)
	a, _ := band.Parse("0.00:0% 1.00:1%")
	b, _ := band.Parse("0.00:0% 1.00:1%")
	a[0].Rate, a[1].From = 9, 9
	check(t, "bands that were told twice", slices.Equal(b, table(0, 0, 100, 10000)), true)
}
