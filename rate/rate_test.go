package rate_test

import (
	"fmt"
	"math"
	"math/big"
	"math/rand"
	"regexp"
	"strings"
	"testing"

	"wagebook/api"
	"wagebook/rate"
)

const (
	mostCents = api.Cents(1 << 50)
	mostRate  = api.Rate(1000000000)
	lowest    = int64(math.MinInt64)
	highest   = int64(math.MaxInt64)
)

// check fails the test, if a call's answer and error are others than were wanted.
func check[T api.Cents | api.Rate](t *testing.T, what string, got T, e api.Errno, wanted T, wantedE api.Errno) {
	t.Helper()
	if got != wanted || e != wantedE {
		t.Errorf("%s: %d, error %d; wanted %d, error %d", what, got, e, wanted, wantedE)
	}
}

// rounded is n * num / den by the chapter's words, by whole numbers without a limit: of the two that are around it the one that the mode says.
func rounded(n, num, den int64, mode int) *big.Int {
	product := new(big.Int).Mul(big.NewInt(n), big.NewInt(num))
	floor, rest := new(big.Int).DivMod(product, big.NewInt(den), new(big.Int))
	if rest.Sign() == 0 {
		return floor
	}
	ceil := new(big.Int).Add(floor, big.NewInt(1))
	inner, outer := floor, ceil
	if product.Sign() < 0 {
		inner, outer = ceil, floor
	}
	switch half := new(big.Int).Lsh(rest, 1).Cmp(big.NewInt(den)); {
	case mode == rate.Floor:
		return floor
	case mode == rate.Down:
		return inner
	case mode == rate.Up:
		return outer
	case half < 0:
		return floor
	case half > 0:
		return ceil
	case mode == rate.Half:
		return outer
	case floor.Bit(0) == 0:
		return floor
	}
	return ceil
}

// limited is what a call answers that came to n, with that limit.
func limited(n *big.Int, limit int64) (int64, api.Errno) {
	if n.CmpAbs(big.NewInt(limit)) > 0 {
		return 0, api.ErrOverflow
	}
	return n.Int64(), api.OK
}

// checkPart holds Part against the chapter's words.
func checkPart(t *testing.T, c api.Cents, num, den int64) {
	t.Helper()
	for mode := rate.Down; mode <= rate.Floor; mode++ {
		got, e := rate.Part(c, num, den, mode)
		wanted, wantedE := limited(rounded(int64(c), num, den, mode), int64(mostCents))
		check(t, fmt.Sprintf("Part(%d, %d, %d, %d)", c, num, den, mode), got, e, api.Cents(wanted), wantedE)
	}
}

func TestConstants(t *testing.T) {
	if [5]int{rate.Down, rate.Half, rate.Even, rate.Up, rate.Floor} != [5]int{0, 1, 2, 3, 4} || rate.One != 1000000 {
		t.Error("a constant isn't the chapter's")
	}
}

func TestP2_1Modes(t *testing.T) {
	for _, x := range []struct {
		c      api.Cents
		den    int64
		wanted [5]api.Cents // by Down, Half, Even, Up, Floor
	}{
		{0, 2, [5]api.Cents{0, 0, 0, 0, 0}},
		{4, 2, [5]api.Cents{2, 2, 2, 2, 2}},
		{-4, 2, [5]api.Cents{-2, -2, -2, -2, -2}},
		{1, 2, [5]api.Cents{0, 1, 0, 1, 0}},
		{-1, 2, [5]api.Cents{0, -1, 0, -1, -1}},
		{3, 2, [5]api.Cents{1, 2, 2, 2, 1}},
		{-3, 2, [5]api.Cents{-1, -2, -2, -2, -2}},
		{5, 2, [5]api.Cents{2, 3, 2, 3, 2}},
		{-5, 2, [5]api.Cents{-2, -3, -2, -3, -3}},
		{2499, 1000, [5]api.Cents{2, 2, 2, 3, 2}},
		{2500, 1000, [5]api.Cents{2, 3, 2, 3, 2}},
		{2501, 1000, [5]api.Cents{2, 3, 3, 3, 2}},
		{-2499, 1000, [5]api.Cents{-2, -2, -2, -3, -3}},
		{-2500, 1000, [5]api.Cents{-2, -3, -2, -3, -3}},
		{-2501, 1000, [5]api.Cents{-2, -3, -3, -3, -3}},
		{3499, 1000, [5]api.Cents{3, 3, 3, 4, 3}},
		{3500, 1000, [5]api.Cents{3, 4, 4, 4, 3}},
		{3501, 1000, [5]api.Cents{3, 4, 4, 4, 3}},
		{-3499, 1000, [5]api.Cents{-3, -3, -3, -4, -4}},
		{-3500, 1000, [5]api.Cents{-3, -4, -4, -4, -4}},
		{-3501, 1000, [5]api.Cents{-3, -4, -4, -4, -4}},
		{1, highest, [5]api.Cents{0, 0, 0, 1, 0}},
		{-1, highest, [5]api.Cents{0, 0, 0, -1, -1}},
	} {
		for mode, wanted := range x.wanted {
			got, e := rate.Part(x.c, 1, x.den, mode)
			check(t, fmt.Sprintf("1 / %d of %d by %d", x.den, x.c, mode), got, e, wanted, api.OK)
			got, e = rate.Part(-x.c, -1, x.den, mode)
			check(t, fmt.Sprintf("-1 / %d of %d by %d", x.den, -x.c, mode), got, e, wanted, api.OK)
		}
	}
}

func TestP2_1Errors(t *testing.T) {
	for _, x := range []struct {
		c        api.Cents
		num, den int64
		mode     int
		e        api.Errno
	}{
		{mostCents + 1, 0, 1, rate.Down, api.ErrRange},
		{-mostCents - 1, 0, 1, rate.Down, api.ErrRange},
		{api.Cents(lowest), 1, 0, 9, api.ErrRange},
		{api.Cents(highest), 1, -1, 9, api.ErrRange},
		{mostCents + 1, 2, 0, -1, api.ErrRange},
		{mostCents, 2, 0, -1, api.ErrZero},
		{0, 0, 0, rate.Half, api.ErrZero},
		{mostCents, 2, -1, -1, api.ErrRange},
		{1, 1, lowest, rate.Half, api.ErrRange},
		{mostCents, 2, 1, -1, api.ErrKind},
		{mostCents, 2, 1, 5, api.ErrKind},
		{1, 1, 1, math.MinInt, api.ErrKind},
		{1, 1, 1, math.MaxInt, api.ErrKind},
		{mostCents, 2, 1, rate.Down, api.ErrOverflow},
		{-mostCents, 2, 1, rate.Down, api.ErrOverflow},
		{mostCents, lowest, 1, rate.Floor, api.ErrOverflow},
		{mostCents, highest, 1, rate.Even, api.ErrOverflow},
		{1, int64(mostCents) + 1, 1, rate.Half, api.ErrOverflow},
		{-1, int64(mostCents) + 1, 1, rate.Half, api.ErrOverflow},
		{1 << 14, 1 << 50, 1, rate.Up, api.ErrOverflow}, // 2^64, of which 64 bits are 0
		{1 << 50, 1 << 28, 1 << 14, rate.Up, api.ErrOverflow},
		{1 << 13, highest, 1<<12 - 1, rate.Up, api.ErrOverflow},
		{3, highest, 1, rate.Up, api.ErrOverflow},
		{253921, 145295143558111, 2, rate.Up, api.ErrOverflow}, // 2^64 - 1/2, which rounds to 64 bits of 0
		{-253921, 145295143558111, 2, rate.Half, api.ErrOverflow},
		{253921, 145295143558111, 2, rate.Even, api.ErrOverflow},
	} {
		got, e := rate.Part(x.c, x.num, x.den, x.mode)
		check(t, fmt.Sprintf("Part(%d, %d, %d, %d)", x.c, x.num, x.den, x.mode), got, e, 0, x.e)
	}
}

// TestP2_1AtTheLimit: it is the rounded part that must be right, by each mode.
func TestP2_1AtTheLimit(t *testing.T) {
	const limit = 1 << 50
	for _, x := range []struct {
		c        api.Cents
		num, den int64
		in       [5]bool // by Down, Half, Even, Up, Floor
	}{
		{1, limit*2 + 1, 2, [5]bool{true, false, true, false, true}}, // a half above the limit
		{-1, limit*2 + 1, 2, [5]bool{true, false, true, false, false}},
		{1, limit*3 + 1, 3, [5]bool{true, true, true, false, true}},
		{-1, limit*3 + 1, 3, [5]bool{true, true, true, false, false}},
		{1, limit*3 + 2, 3, [5]bool{true, false, false, false, true}},
		{-1, limit*3 + 2, 3, [5]bool{true, false, false, false, false}},
		{1, limit*2 - 1, 2, [5]bool{true, true, true, true, true}},
		{-1, limit*2 - 1, 2, [5]bool{true, true, true, true, true}},
		{1, limit + 1, 1, [5]bool{}},
		{-1, limit + 1, 1, [5]bool{}},
	} {
		for mode, in := range x.in {
			wanted := api.ErrOverflow
			if in {
				wanted = api.OK
			}
			if _, e := rate.Part(x.c, x.num, x.den, mode); e != wanted {
				t.Errorf("Part(%d, %d, %d, %d): error %d, wanted %d", x.c, x.num, x.den, mode, e, wanted)
			}
		}
	}
}

func TestP2_1Small(t *testing.T) {
	for c := api.Cents(-20); c <= 20; c++ {
		for num := int64(-12); num <= 12; num++ {
			for den := int64(1); den <= 12; den++ {
				checkPart(t, c, num, den)
			}
		}
	}
}

// far are whole numbers at which 64 bits, or a limit, end.
func far() []int64 {
	return []int64{lowest, lowest + 1, -1 << 62, -1<<50 - 1, -1 << 50, -1<<50 + 1, -1 << 32, -1000000, -3, -2, -1,
		0, 1, 2, 3, 999999, 1000000, 1 << 31, 1<<32 - 1, 1 << 32, 1<<32 + 1, 1<<50 - 1, 1 << 50, 1<<50 + 1, 1<<51 + 1, 1<<62 - 1, 1 << 62, 1<<62 + 1, highest - 1, highest}
}

func TestP2_1Far(t *testing.T) {
	for _, c := range far() {
		for _, num := range far() {
			for _, den := range far() {
				if den > 0 && -int64(mostCents) <= c && c <= int64(mostCents) {
					checkPart(t, api.Cents(c), num, den)
				}
			}
		}
	}
}

// TestP2_1Many takes numbers of all lengths, from a source that is the same each time.
func TestP2_1Many(t *testing.T) {
	source := rand.New(rand.NewSource(1))
	number := func(bits int) int64 {
		n := int64(source.Uint64() >> 1 >> source.Intn(bits))
		if source.Intn(2) == 0 {
			return -n
		}
		return n
	}
	for range 20000 {
		c := api.Cents(number(50) >> 13)
		num, den := number(63), max(1, number(63))
		checkPart(t, c, num, den)
		checkPart(t, c, num, max(1, num/2))
		checkPart(t, c, int64(c), max(1, num>>8))
	}
}

func TestP2_2Of(t *testing.T) {
	for _, x := range []struct {
		c      api.Cents
		r      api.Rate
		mode   int
		wanted api.Cents
		e      api.Errno
	}{
		{1001, 125000, rate.Half, 125, api.OK},
		{1001, 125000, rate.Up, 126, api.OK},
		{-1001, 125000, rate.Floor, -126, api.OK},
		{1001, -125000, rate.Down, -125, api.OK},
		{100, 5000, rate.Half, 1, api.OK},
		{100, 4999, rate.Half, 0, api.OK},
		{100, 5000, rate.Even, 0, api.OK},
		{100, 15000, rate.Even, 2, api.OK},
		{0, mostRate, rate.Up, 0, api.OK},
		{mostCents, 0, rate.Up, 0, api.OK},
		{mostCents, rate.One, rate.Up, mostCents, api.OK},
		{-mostCents, rate.One, rate.Floor, -mostCents, api.OK},
		{mostCents, 1, rate.Half, 1125899907, api.OK},
		{1, mostRate, rate.Down, 1000, api.OK},
		{1, -mostRate, rate.Down, -1000, api.OK},
		{mostCents / 1000, mostRate, rate.Down, mostCents / 1000 * 1000, api.OK},
		{mostCents, rate.One + 1, rate.Down, 0, api.ErrOverflow},
		{-mostCents, mostRate, rate.Half, 0, api.ErrOverflow},
		{mostCents + 1, mostRate + 1, 9, 0, api.ErrRange},
		{mostCents + 1, 0, rate.Half, 0, api.ErrRange},
		{-mostCents - 1, 0, rate.Half, 0, api.ErrRange},
		{0, mostRate + 1, rate.Half, 0, api.ErrRange},
		{0, -mostRate - 1, rate.Half, 0, api.ErrRange},
		{mostCents, mostRate + 1, 5, 0, api.ErrRange},
		{1, api.Rate(lowest), -1, 0, api.ErrRange},
		{1, api.Rate(highest), -1, 0, api.ErrRange},
		{mostCents, mostRate, 5, 0, api.ErrKind},
		{mostCents, mostRate, -1, 0, api.ErrKind},
	} {
		got, e := rate.Of(x.c, x.r, x.mode)
		check(t, fmt.Sprintf("Of(%d, %d, %d)", x.c, x.r, x.mode), got, e, x.wanted, x.e)
	}
}

func TestP2_2OfIsPart(t *testing.T) {
	source := rand.New(rand.NewSource(2))
	for range 5000 {
		c, r, mode := api.Cents(source.Int63n(1<<51)-1<<50), api.Rate(source.Int63n(2000000001)-1000000000), source.Intn(5)
		if source.Intn(2) == 0 {
			r /= 1000
		}
		got, e := rate.Of(c, r, mode)
		wanted, wantedE := limited(rounded(int64(c), int64(r), 1000000, mode), int64(mostCents))
		check(t, fmt.Sprintf("Of(%d, %d, %d)", c, r, mode), got, e, api.Cents(wanted), wantedE)
	}
}

func TestP2_3Times(t *testing.T) {
	for _, x := range []struct {
		a, b, wanted api.Rate
		e            api.Errno
	}{
		{0, 0, 0, api.OK},
		{rate.One, 125000, 125000, api.OK},
		{500000, 500000, 250000, api.OK},
		{500000, 1, 1, api.OK},
		{-500000, 1, -1, api.OK},
		{500000, 3, 2, api.OK},
		{500000, -5, -3, api.OK},
		{499999, 1, 0, api.OK},
		{500001, -1, -1, api.OK},
		{-333333, -500000, 166667, api.OK},
		{mostRate, rate.One, mostRate, api.OK},
		{-mostRate, rate.One, -mostRate, api.OK},
		{mostRate, 0, 0, api.OK},
		{mostRate, rate.One + 1, 0, api.ErrOverflow},
		{-mostRate, rate.One + 1, 0, api.ErrOverflow},
		{31622777, 31622776, 999999994, api.OK},
		{19352947, 51671717, mostRate, api.OK}, // 1000000000.499999
		{-19352947, 51671717, -mostRate, api.OK},
		{1500000, 666666667, 0, api.ErrOverflow}, // 1000000000.5
		{1500000, -666666667, 0, api.ErrOverflow},
		{15500000, 64516129, mostRate, api.OK}, // 999999999.5
		{mostRate, mostRate, 0, api.ErrOverflow},
		{-mostRate, mostRate, 0, api.ErrOverflow},
		{mostRate + 1, 0, 0, api.ErrRange},
		{0, mostRate + 1, 0, api.ErrRange},
		{-mostRate - 1, 0, 0, api.ErrRange},
		{0, -mostRate - 1, 0, api.ErrRange},
		{mostRate + 1, mostRate, 0, api.ErrRange},
		{mostRate, -mostRate - 1, 0, api.ErrRange},
		{api.Rate(lowest), api.Rate(lowest), 0, api.ErrRange},
		{api.Rate(highest), api.Rate(lowest), 0, api.ErrRange},
	} {
		got, e := rate.Times(x.a, x.b)
		check(t, fmt.Sprintf("Times(%d, %d)", x.a, x.b), got, e, x.wanted, x.e)
	}
}

func TestP2_3Many(t *testing.T) {
	source := rand.New(rand.NewSource(3))
	for range 5000 {
		a, b := api.Rate(source.Int63n(2000000001)-1000000000), api.Rate(source.Int63n(4000001)-2000000)
		got, e := rate.Times(a, b)
		wanted, wantedE := limited(rounded(int64(a), int64(b), 1000000, rate.Half), int64(mostRate))
		check(t, fmt.Sprintf("Times(%d, %d)", a, b), got, e, api.Rate(wanted), wantedE)
	}
}

// rates are some, each with its text.
func rates() map[api.Rate]string {
	return map[api.Rate]string{
		0: "0%", 1: "0.0001%", -1: "-0.0001%", 10: "0.001%", 100: "0.01%", 1000: "0.1%", 10000: "1%", -10000: "-1%", 9999: "0.9999%",
		10001: "1.0001%", 10010: "1.001%", 10100: "1.01%", 11000: "1.1%", 90909: "9.0909%", 99990: "9.999%", 100000: "10%",
		125000: "12.5%", -125000: "-12.5%", 1000000: "100%", 1000500: "100.05%", 333333: "33.3333%",
		999999999: "99999.9999%", -999999999: "-99999.9999%", 1000000000: "100000%", -1000000000: "-100000%",
	}
}

func TestP2_4Text(t *testing.T) {
	for r, wanted := range rates() {
		if got := rate.Text(r); got != wanted {
			t.Errorf("Text(%d): %q, wanted %q", r, got, wanted)
		}
	}
	for _, r := range []api.Rate{mostRate + 1, -mostRate - 1, api.Rate(highest), api.Rate(lowest)} {
		if got := rate.Text(r); got != "" {
			t.Errorf("Text(%d): %q, wanted none", r, got)
		}
	}
}

func TestP2_4Parse(t *testing.T) {
	for wanted, s := range rates() {
		got, e := rate.Parse(s)
		check(t, "Parse "+s, got, e, wanted, api.OK)
	}
}

func TestP2_4ParseNone(t *testing.T) {
	got, e := rate.Parse("")
	check(t, "Parse of nothing", got, e, 0, api.ErrEmpty)
	nines := strings.Repeat("9", 5000)
	for _, s := range []string{
		"%", "-%", "-", ".", ".%", "-.%", "0", "1", "12.5", "100", "100000", "1%%", "%1", "%1%", "1% ", " 1%", "1 %", "1%\n", "- 1%",
		"-0%", "-0.0%", "-0.0000%", "0.0%", "0.0000%", "0.%", "1.%", "1.0%", "1.10%", "1.1000%", "1.0000%", ".5%", "-.5%",
		"0.00001%", "0.00000%", "1.00001%", "1.12345%", "1.123456%", "1.1.1%", "1..1%", "1.1.%", "00%", "01%", "-01%", "00.5%", "000%",
		"+1%", "+0%", "--1%", "-+1%", "1-%", "1.-1%", "1.+1%", "1,5%", "1_0%", "1e1%", "0x1%", "a%", "1a%", "a1%", "1.a%", "1.1a%",
		"/%", ":%", "1/%", "1:%", "1./%", "1.:%", "\x00%", "1\x00%", "\xff%", "1.\xff%", "٣%", "１%", "1％", "−1%",
		nines, nines + "a%", "a" + nines + "%", nines + ".0%", nines + ".12345%", "0" + nines + "%", "-" + nines + ".%", "0." + nines + "%",
		"100001", "100001.0%", "-99999999999999999999999.90%",
	} {
		got, e := rate.Parse(s)
		check(t, fmt.Sprintf("Parse(%.60q)", s), got, e, 0, api.ErrForm)
	}
	for _, s := range []string{
		"100000.0001%", "-100000.0001%", "100000.1%", "100001%", "-100001%", "1000000%", "100010%", "999999999%", "1000000000%", "1000000001%",
		"922337203685477.5807%", "922337203685477.5808%", "-922337203685477.5808%", "1844674407370955.1616%", "1844674407370955.1617%",
		"9223372036854775807%", "9223372036854775808%", "18446744073709551616%", "18446744073709551617%",
		"340282366920938463463374607431768211457%", nines + "%", "-" + nines + "%", nines + ".9999%", "1" + strings.Repeat("0", 5000) + "%",
	} {
		got, e := rate.Parse(s)
		check(t, fmt.Sprintf("Parse(%.60q)", s), got, e, 0, api.ErrRange)
	}
}

// TestP2_4ParseShort goes through all short texts of the bytes that texts are made of: what has the form is parsed, and has that text; nothing else is parsed.
func TestP2_4ParseShort(t *testing.T) {
	form := regexp.MustCompile(`^-?(0|[1-9][0-9]*)(\.[0-9]{0,3}[1-9])?%$`)
	const letters = "-.019%"
	level := []string{"-", ".", "0", "1", "9", "%"}
	for range 6 {
		var next []string
		for _, s := range level {
			got, e := rate.Parse(s)
			if !form.MatchString(s) || s == "-0%" {
				check(t, "Parse "+s, got, e, 0, api.ErrForm)
			} else if e != api.OK || rate.Text(got) != s {
				t.Errorf("Parse %s: %d, error %d", s, got, e)
			}
			for i := range len(letters) {
				next = append(next, s+letters[i:i+1])
			}
		}
		level = next
	}
}

func TestP2_5Modes(t *testing.T) {
	for c := api.Cents(-60); c <= 60; c++ {
		for den := int64(1); den <= 9; den++ {
			var parts []api.Cents
			for mode := rate.Down; mode <= rate.Floor; mode++ {
				part, e := rate.Part(c, 7, den, mode)
				if e != api.OK {
					t.Fatalf("error %d", e)
				}
				parts = append(parts, part)
			}
			for _, a := range parts {
				for _, b := range parts {
					if a-b > 1 {
						t.Errorf("7 / %d of %d: %v", den, c, parts)
					}
				}
			}
		}
	}
}

func TestP2_5Sums(t *testing.T) {
	part := func(c api.Cents, num, den int64) api.Cents {
		got, e := rate.Part(c, num, den, rate.Half)
		if e != api.OK {
			t.Fatalf("Part(%d, %d, %d): error %d", c, num, den, e)
		}
		return got
	}
	for a := api.Cents(-25); a <= 25; a++ {
		for b := api.Cents(-25); b <= 25; b++ {
			for den := int64(1); den <= 8; den++ {
				for _, scale := range []api.Cents{1, 1 << 40} {
					apart := part(a*scale+1, 3, den) + part(b*scale, 3, den) - part((a+b)*scale+1, 3, den)
					if apart < -1 || apart > 1 {
						t.Errorf("3 / %d of %d and %d, by %d: %d apart", den, a, b, scale, apart)
					}
				}
			}
		}
	}
}

func TestP2_5TextAndParse(t *testing.T) {
	round := func(r api.Rate) {
		got, e := rate.Parse(rate.Text(r))
		check(t, "Parse of "+rate.Text(r), got, e, r, api.OK)
	}
	for r := api.Rate(-30000); r <= 30000; r++ {
		round(r)
		round(mostRate - 30000 + r)
		round(30000 - mostRate + r)
	}
	for r := api.Rate(1); r <= mostRate; r = r*3/2 + 1 {
		round(r)
		round(-r)
	}
}

// TestP1NoPanic hands each call what is farthest out.
func TestP1NoPanic(t *testing.T) {
	for _, a := range far() {
		rate.Text(api.Rate(a))
		for _, b := range far() {
			rate.Times(api.Rate(a), api.Rate(b))
			for _, mode := range []int{math.MinInt, -1, 0, 1, 2, 3, 4, 5, math.MaxInt} {
				rate.Of(api.Cents(a), api.Rate(b), mode)
				for _, den := range far() {
					rate.Part(api.Cents(a), b, den, mode)
				}
			}
		}
	}
	for b := range 256 {
		for _, s := range []string{"", "-", "1", "1.", "1.5", "1%", "-1.5%"} {
			rate.Parse(s + string([]byte{byte(b)}))
			rate.Parse(string([]byte{byte(b)}) + s)
		}
	}
}
