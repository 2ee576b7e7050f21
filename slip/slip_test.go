package slip_test

import (
	"fmt"
	"math/rand"
	"slices"
	"strings"
	"testing"

	"wagebook/api"
	"wagebook/slip"
)

func TestP27_1Check(t *testing.T) {
	for _, x := range []struct {
		s      api.Slip
		wanted api.Errno
	}{
		{api.Slip{}, api.ErrRange},
		{of(), api.OK},
		{api.Slip{Year: 1900, Index: 1}, api.OK},
		{api.Slip{Year: 2199, Index: 400}, api.OK},
		{api.Slip{Year: 1899, Index: 1}, api.ErrRange},
		{api.Slip{Year: 2200, Index: 1}, api.ErrRange},
		{api.Slip{Year: lowest, Index: 1}, api.ErrRange},
		{api.Slip{Year: highest, Index: 1}, api.ErrRange},
		{api.Slip{Year: 2024, Index: 0}, api.ErrRange},
		{api.Slip{Year: 2024, Index: -1}, api.ErrRange},
		{api.Slip{Year: 2024, Index: 401}, api.ErrRange},
		{api.Slip{Year: 2024, Index: lowest}, api.ErrRange},
		{api.Slip{Year: 2024, Index: highest}, api.ErrRange},
		{api.Slip{Year: 1899, Index: 1, Lines: make([]api.Line, 449)}, api.ErrRange}, // ahead of ErrMany
		{api.Slip{Year: 2024, Index: 401, Lines: make([]api.Line, 449)}, api.ErrRange},
		{numbered(448), api.OK},
		{numbered(449), api.ErrMany},
		{api.Slip{Year: 2024, Index: 1, Lines: make([]api.Line, 449)}, api.ErrMany}, // ahead of the lines
		{of(0, "a", 1, 1, "a", 1, 2, "a", 1, 3, "a", 1, 4, "a", 1, 5, "a", 1, 6, "a", 1), api.OK},
		{of(7, "a", 1), api.ErrKind},
		{of(-1, "a", 1), api.ErrKind},
		{of(lowest, "a", 1), api.ErrKind},
		{of(highest, "a", 1), api.ErrKind},
		{of(7, "", 0), api.ErrKind}, // ahead of the line's other errors
		{of(0, "", 0), api.ErrName},
		{of(0, "-", highest), api.ErrName},
		{of(0, "a", 0), api.ErrZero},
		{of(0, "a", int(most)), api.OK},
		{of(0, "a", -int(most)), api.OK},
		{of(0, "a", int(most)+1), api.ErrOverflow},
		{of(0, "a", -int(most)-1), api.ErrOverflow},
		{of(0, "a", lowest), api.ErrOverflow},
		{of(0, "a", highest), api.ErrOverflow},
		{of(0, "a", 1, 0, "a", 2), api.ErrTwice},
		{of(0, "a", 1, 0, "a", 0), api.ErrZero}, // ahead of ErrTwice
		{of(0, "a", 1, 0, "a", highest), api.ErrOverflow},
		{of(0, "a", 1, 1, "a", 2), api.OK},
		{of(0, "b", 1, 0, "a", 2), api.ErrOrder},
		{of(0, "b", 1, 0, "a", 0), api.ErrZero}, // ahead of ErrOrder
		{of(0, "b", 1, 0, "a", lowest), api.ErrOverflow},
		{of(1, "a", 1, 0, "b", 2), api.ErrOrder},
		{of(1, "a", 1, 0, "a", 2), api.ErrOrder},
		{of(0, "b", 1, 1, "a", 2), api.OK},
		{of(0, "a", 1, 0, "b", 1, 0, "a", 1), api.ErrOrder}, // only the line ahead makes ErrTwice
		{of(0, "a-", 1, 0, "a.", 1, 0, "a0", 1, 0, "a_", 1, 0, "aa", 1), api.OK},
		{of(0, "a_", 1, 0, "a0", 1), api.ErrOrder}, // by their bytes
		{of(0, "a", 1, 0, "a-", 1), api.OK},
		{of(0, "a-", 1, 0, "a", 1), api.ErrOrder},
		{of(0, "a", 1, 0, "a", 1, 7, "a", 1), api.ErrTwice}, // line by line
		{of(0, "b", 1, 0, "a", 1, 0, "", 1), api.ErrOrder},
		{of(0, "a", 0, 7, "a", 1), api.ErrZero},
		{of(0, "", 1, 0, "b", 1, 0, "a", 1), api.ErrName},
	} {
		check(t, "Check of "+nameOf(x.s), slip.Check(x.s), x.wanted)
	}
	for _, code := range []string{"-a", "a-", "--", ".", "_", "0", "a.b_c-9", strings.Repeat("z", 32), strings.Repeat("-", 32)} {
		check(t, "code "+code, slip.Check(of(3, code, 1)), api.OK)
	}
	for _, code := range []string{"", "-", "A", "a b", "a:b", "a/b", "ä", "a\n", "a\x00", "\xff", strings.Repeat("z", 33), strings.Repeat("z", 5000)} {
		check(t, fmt.Sprintf("code %.40q", code), slip.Check(of(3, code, 1)), api.ErrName)
	}
}

func TestP27_1CheckByWords(t *testing.T) {
	r := rand.New(rand.NewSource(2711))
	seen := map[api.Errno]int{}
	for range 40000 {
		s := someSlip(r, 50, 8)
		check(t, "Check of "+nameOf(s), slip.Check(s), api.OK)
		for range 1 + r.Intn(2) {
			s = spoil(r, s)
		}
		wanted := checkByWords(s)
		check(t, "Check of "+nameOf(s), slip.Check(s), wanted)
		seen[wanted]++
	}
	for _, e := range []api.Errno{api.OK, api.ErrRange, api.ErrKind, api.ErrName, api.ErrZero, api.ErrOverflow, api.ErrTwice, api.ErrOrder} {
		check(t, fmt.Sprint("error ", e, " is come to"), seen[e] > 50, true)
	}
}

func TestP27_1Sums(t *testing.T) {
	all := int(most)
	for _, x := range []struct {
		s                      api.Slip
		gross, held, net, firm int
		e                      api.Errno
	}{
		{of(0, "salary", 500000, 3, "tax", 80000, 6, "old", 50000), 500000, 80000, 420000, 50000, api.OK}, // the chapter's
		{of(), 0, 0, 0, 0, api.OK},
		{of(0, "a", 1, 1, "a", 20, 2, "a", 300, 3, "a", 4000, 4, "a", 50000, 5, "a", 600000, 6, "a", 7000000), 1, 654320, -654319, 7000000, api.OK},
		{of(0, "a", 5, 0, "b", -7, 6, "a", 5, 6, "b", -7), -2, 0, -2, -2, api.OK},
		{of(0, "a", 5, 3, "tax", -7), 5, -7, 12, 0, api.OK},
		{of(0, "a", all, 0, "b", 1, 0, "c", -1), all, 0, all, 0, api.OK}, // all together, not one by one
		{of(1, "a", all, 5, "b", 1, 5, "c", -1), 0, all, -all, 0, api.OK},
		{of(6, "a", all, 6, "b", 1, 6, "c", -1), 0, 0, 0, all, api.OK},
		{of(0, "a", all, 0, "b", 1, 1, "c", 1), 0, 0, 0, 0, api.ErrOverflow}, // the gross alone
		{of(0, "a", -all, 0, "b", -1, 1, "c", -1), 0, 0, 0, 0, api.ErrOverflow},
		{of(0, "a", 1, 1, "a", all, 4, "b", 1), 0, 0, 0, 0, api.ErrOverflow}, // what is held
		{of(0, "a", -1, 1, "a", -all, 4, "b", -1), 0, 0, 0, 0, api.ErrOverflow},
		{of(0, "a", all, 1, "a", -1), 0, 0, 0, 0, api.ErrOverflow}, // the net
		{of(0, "a", -all, 1, "a", 1), 0, 0, 0, 0, api.ErrOverflow},
		{of(0, "a", 5, 6, "a", all, 6, "b", 1), 0, 0, 0, 0, api.ErrOverflow}, // firm
		{of(0, "a", 5, 6, "a", -all, 6, "b", -1), 0, 0, 0, 0, api.ErrOverflow},
		{of(0, "a", all, 5, "a", all, 6, "a", all), all, all, 0, all, api.OK},
		{of(0, "a", -all, 5, "a", -all, 6, "a", -all), -all, -all, 0, -all, api.OK},
		{api.Slip{}, 0, 0, 0, 0, api.ErrRange},
		{of(0, "a", all, 0, "b", all, 7, "c", 1), 0, 0, 0, 0, api.ErrKind}, // Check's, ahead of ErrOverflow
		{of(0, "a", 5, 6, "b", 5, 6, "b", 5), 0, 0, 0, 0, api.ErrTwice},
	} {
		gross, held, net, firm, e := slip.Sums(x.s)
		got := []api.Cents{gross, held, net, firm}
		wanted := []api.Cents{api.Cents(x.gross), api.Cents(x.held), api.Cents(x.net), api.Cents(x.firm)}
		check(t, fmt.Sprint("Sums of ", nameOf(x.s), ": ", got), slices.Equal(got, wanted), true)
		check(t, "error of Sums of "+nameOf(x.s), e, x.e)
	}
}

func TestP27_1SumsMany(t *testing.T) {
	s := numbered(448)
	for i := range s.Lines {
		s.Lines[i].Cents = most
	}
	_, e := sums(s)
	check(t, "as much as there may be, together", e, api.ErrOverflow)
	for i := range s.Lines {
		if i%2 == 1 {
			s.Lines[i].Cents = -most
		}
	}
	got, e := sums(s) // each part has 64 lines
	check(t, "error of as much as there may be, both ways", e, api.OK)
	check(t, "as much as there may be, both ways", slices.Equal(got, make([]api.Cents, 4)), true)
}

func TestP27_1SumsByWords(t *testing.T) {
	r := rand.New(rand.NewSource(2712))
	seen := map[api.Errno]int{}
	for i := range 40000 {
		s := someSlip(r, []int{50, 10}[i%2], 12)
		if r.Intn(4) == 0 {
			s = spoil(r, s)
		}
		wanted, wantedE := sumsByWords(s)
		got, e := sums(s)
		check(t, fmt.Sprint("Sums of ", nameOf(s), ": ", got), slices.Equal(got, wanted), true)
		check(t, "error of Sums of "+nameOf(s), e, wantedE)
		seen[e]++
	}
	check(t, "both come to be", seen[api.OK] > 1000 && seen[api.ErrOverflow] > 50, true)
}

func TestP27_1Part(t *testing.T) {
	s := of(3, "b", 1, 0, "a", 2, 3, "a", 3, 3, "b", 0, 7, "x", 9, 3, "", highest, -1, "y", 8) // any, as they stand
	for part, wanted := range map[int][]api.Item{
		0: {{Code: "a", Cents: 2}},
		3: {{Code: "b", Cents: 1}, {Code: "a", Cents: 3}, {Code: "b"}, {Cents: highest}},
		1: nil, 6: nil, 8: nil, lowest: nil, highest: nil,
	} {
		got := slip.Part(s, part)
		check(t, fmt.Sprint("part ", part, ": ", got), slices.Equal(got, wanted), true)
	}
	check(t, "a part of none", len(slip.Part(api.Slip{}, 0)), 0)
	check(t, "a part of many", len(slip.Part(api.Slip{Lines: make([]api.Line, 5000)}, 0)), 5000)
	r := rand.New(rand.NewSource(2713))
	for range 5000 {
		s := someSlip(r, 50, 12)
		var l []api.Line
		for part := range 7 {
			for _, item := range slip.Part(s, part) {
				l = append(l, api.Line{Part: part, Code: item.Code, Cents: item.Cents})
			}
		}
		check(t, "all parts of "+nameOf(s), slices.Equal(l, s.Lines), true)
	}
}

func TestP27_2Text(t *testing.T) {
	for _, x := range []struct {
		s      api.Slip
		wanted string
	}{
		{of(0, "salary", 500000, 3, "tax", 80000, 6, "old", 50000), "slip 2024/02\ngross salary 5000.00\ntax tax 800.00\nfirm old 500.00\n"}, // the chapter's
		{of(), "slip 2024/02\n"},
		{api.Slip{Year: 1900, Index: 10}, "slip 1900/10\n"},
		{api.Slip{Year: 2199, Index: 400}, "slip 2199/400\n"},
		{api.Slip{Year: 2199, Index: 100}, "slip 2199/100\n"},
		{of(0, "a", 1, 1, "b", -1, 2, "c", 10, 3, "-d", -100, 4, "e", 1234567, 5, "f", int(most), 6, "g", -int(most)),
			"slip 2024/02\ngross a 0.01\nbefore b -0.01\nworker c 0.10\ntax -d -1.00\nafter e 12345.67\norders f 11258999068426.24\nfirm g -11258999068426.24\n"},
		{api.Slip{}, ""},
		{of(0, "a", 0), ""},
		{of(0, "b", 1, 0, "a", 1), ""},
		{numbered(449), ""},
	} {
		check(t, "Text of "+nameOf(x.s), slip.Text(x.s), x.wanted)
	}
}

func TestP27_2Parse(t *testing.T) {
	for text, wanted := range map[string]api.Slip{
		"slip 2024/02\ngross salary 5000.00\ntax tax 800.00\nfirm old 500.00\n": of(0, "salary", 500000, 3, "tax", 80000, 6, "old", 50000),
		"slip 2024/02\n":  of(),
		"slip 1900/01\n":  {Year: 1900, Index: 1},
		"slip 2199/10\n":  {Year: 2199, Index: 10},
		"slip 2199/400\n": {Year: 2199, Index: 400},
		"slip 2024/02\ngross a 0.01\nbefore b -0.01\nworker c 0.10\ntax -d -1.00\nafter e 12345.67\norders f 11258999068426.24\nfirm g -11258999068426.24\n": of(0, "a", 1, 1, "b", -1, 2, "c", 10, 3, "-d", -100, 4, "e", 1234567, 5, "f", int(most), 6, "g", -int(most)),
	} {
		got, e := slip.Parse(text)
		checkSame(t, fmt.Sprintf("Parse of %q", text), got, wanted)
		check(t, fmt.Sprintf("error of Parse of %q", text), e, api.OK)
	}
}

func TestP27_2ParseErrors(t *testing.T) {
	for e, l := range map[api.Errno][]string{
		api.ErrEmpty: {""},
		api.ErrForm: {
			"\n", " ", "slip", "slip\n", "slip \n", "slip 2024/02", "slip 2024/02\n\n", "\nslip 2024/02\n", "slip 2024/02 \n", " slip 2024/02\n", "slip  2024/02\n", "Slip 2024/02\n", "slip\t2024/02\n", "2024/02\n", "slip 2024/02\r\n",
			"slip 2024\n", "slip 2024/\n", "slip /02\n", "slip 2024/2\n", "slip 2024/0\n", "slip 2024/002\n", "slip 2024/012\n", "slip 2024/-2\n", "slip 2024/+2\n", "slip 2024/ 2\n", "slip 2024/0x\n", "slip 2024/2/02\n", "slip 2024/02/\n", "slip 2024//02\n",
			"slip 02024/02\n", "slip 00/02\n", "slip -2024/02\n", "slip +2024/02\n", "slip 10000000/02\n", "slip 2024/10000000\n", "slip 18446744073709553640/02\n", "slip 2024/18446744073709551618\n", "slip 2o24/02\n", "slip 2024:02\n", "slip 2024 02\n",
			"slip 2024/02\ngross a 0.01", "slip 2024/02\ngross a 0.01\n\n", "slip 2024/02\n\ngross a 0.01\n", "slip 2024/02\ngross a 0.01 \n", "slip 2024/02\n gross a 0.01\n", "slip 2024/02\ngross  a 0.01\n", "slip 2024/02\ngross a  0.01\n", "slip 2024/02\ngross  0.01\n", "slip 2024/02\ngross a\n", "slip 2024/02\ngross 0.01\n", "slip 2024/02\ngross\n", "slip 2024/02\ngross a b 0.01\n",
			"slip 2024/02\nGross a 0.01\n", "slip 2024/02\nnet a 0.01\n", "slip 2024/02\norder a 0.01\n", "slip 2024/02\n0 a 0.01\n", "slip 2024/02\n a 0.01\n", "slip 2024/02\nslip 2024/02\n", "gross a 0.01\n", "gross a 0.01\nslip 2024/02\n",
			"slip 2024/02\ngross a 1\n", "slip 2024/02\ngross a 1.0\n", "slip 2024/02\ngross a 01.00\n", "slip 2024/02\ngross a .01\n", "slip 2024/02\ngross a -0.00\n", "slip 2024/02\ngross a +0.01\n", "slip 2024/02\ngross a 0,01\n", "slip 2024/02\ngross a 11258999068426.25\n", "slip 2024/02\ngross a -11258999068426.25\n", "slip 2024/02\ngross a \n",
			"slip 1/00\ngross A 0.00\ngross A 0.0\n", "slip 2200/02\n\n", "slip 2024/02\ngross b 0.01\ngross a 0.01", // ahead of Check's
		},
		api.ErrRange: {"slip 0/02\n", "slip 1899/02\n", "slip 2200/02\n", "slip 9999999/02\n", "slip 2024/00\n", "slip 2024/401\n", "slip 2024/9999999\n", "slip 9999999/9999999\n", "slip 7/01\ngross A 0.01\n", "slip 2024/00\ngross a 0.00\n"},
		api.ErrName:  {"slip 2024/02\ngross - 0.01\n", "slip 2024/02\ngross A 0.00\n", "slip 2024/02\ntax ä 0.01\n", "slip 2024/02\ntax \xff 0.01\n", "slip 2024/02\ntax a\r 0.01\n", "slip 2024/02\ntax \x00 0.01\n", "slip 2024/02\nfirm " + strings.Repeat("a", 33) + " 0.01\n"},
		api.ErrZero:  {"slip 2024/02\ngross a 0.00\n", "slip 2024/02\ngross a 0.01\ngross a 0.00\n"},
		api.ErrTwice: {"slip 2024/02\ngross a 0.01\ngross a 0.02\n"},
		api.ErrOrder: {"slip 2024/02\ngross b 0.01\ngross a 0.02\n", "slip 2024/02\ntax b 0.01\ngross c 0.02\n"},
		api.ErrMany:  {"slip 2024/02\n" + strings.Repeat("gross A 0.00\n", 449)},
	} {
		for _, text := range l {
			got, told := slip.Parse(text)
			checkSame(t, fmt.Sprintf("beside the error of %.60q", text), got, api.Slip{})
			check(t, fmt.Sprintf("error of %.60q", text), told, e)
		}
	}
}

func TestP27_2ParseByWords(t *testing.T) {
	r := rand.New(rand.NewSource(2721))
	seen := map[api.Errno]int{}
	for range 60000 {
		s := someSlip(r, 50, 4)
		s.Year, s.Index = []int{1900, 2024, 2199}[r.Intn(3)], []int{1, 9, 10, 99, 100, 400}[r.Intn(6)]
		text := textByWords(s)
		for range 1 + r.Intn(2) {
			if text != "" {
				text = spoilText(r, text)
			}
		}
		wanted, wantedE := parseByWords(text)
		got, e := slip.Parse(text)
		checkSame(t, fmt.Sprintf("Parse of %q", text), got, wanted)
		check(t, fmt.Sprintf("error of Parse of %q", text), e, wantedE)
		seen[e]++
	}
	for _, e := range []api.Errno{api.OK, api.ErrForm, api.ErrRange, api.ErrName, api.ErrTwice, api.ErrOrder} {
		check(t, fmt.Sprint("error ", e, " is come to"), seen[e] > 50, true)
	}
}

func TestP27_2Why(t *testing.T) {
	all := int(most)
	for _, x := range []struct {
		s      api.Slip
		part   int
		wanted string
	}{
		{of(0, "bonus", 10000, 0, "salary", 500000, 3, "tax", -500), 0, "bonus 100.00\nsalary 5000.00\n= 5100.00\n"},
		{of(0, "bonus", 10000, 0, "salary", 500000, 3, "tax", -500), 3, "tax -5.00\n= -5.00\n"},
		{of(0, "bonus", 10000, 6, "old", 1), 6, "old 0.01\n= 0.01\n"},
		{of(0, "bonus", 10000), 4, "= 0.00\n"},
		{of(), 0, "= 0.00\n"},
		{of(5, "a", 7, 5, "b", -7), 5, "a 0.07\nb -0.07\n= 0.00\n"},
		{of(1, "a", all, 1, "b", 1, 1, "c", -1), 1, "a 11258999068426.24\nb 0.01\nc -0.01\n= 11258999068426.24\n"},
		{of(1, "a", all, 1, "b", 1), 1, ""},
		{of(1, "a", -all, 1, "b", -1), 1, ""},
		{of(1, "a", all, 1, "b", 1, 2, "c", 5), 2, "c 0.05\n= 0.05\n"}, // another part's sum doesn't count
		{of(0, "a", 1), 7, ""},
		{of(0, "a", 1), -1, ""},
		{of(0, "a", 1), lowest, ""},
		{of(0, "a", 1), highest, ""},
		{of(7, "a", 1), 7, ""},
		{of(0, "a", 1, 0, "b", 0), 1, ""}, // a wrong slip's
		{api.Slip{}, 0, ""},
	} {
		check(t, fmt.Sprint("Why of ", nameOf(x.s), ", part ", x.part), slip.Why(x.s, x.part), x.wanted)
	}
	r := rand.New(rand.NewSource(2722))
	for i := range 10000 {
		s := someSlip(r, []int{50, 10}[i%2], 12)
		if r.Intn(4) == 0 {
			s = spoil(r, s)
		}
		for part := -1; part <= 7; part++ {
			check(t, fmt.Sprint("Why of ", nameOf(s), ", part ", part), slip.Why(s, part), whyByWords(s, part))
		}
	}
}

func TestP27_3Merge(t *testing.T) {
	all := int(most)
	for _, x := range []struct {
		a, b, wanted api.Slip
	}{
		{of(), of(), of()},
		{of(0, "a", 1), of(), of(0, "a", 1)},
		{of(), of(0, "a", 1), of(0, "a", 1)},
		{of(0, "a", 1), of(0, "a", 2), of(0, "a", 3)},
		{of(0, "a", 1), of(0, "b", 2), of(0, "a", 1, 0, "b", 2)},
		{of(0, "b", 1), of(0, "a", 2), of(0, "a", 2, 0, "b", 1)},
		{of(0, "a", 1), of(1, "a", 2), of(0, "a", 1, 1, "a", 2)},
		{of(1, "a", 1), of(0, "z", 2), of(0, "z", 2, 1, "a", 1)},
		{of(0, "a", 1), of(0, "a", -1), of()},
		{of(0, "a", 1, 0, "b", 2, 0, "c", 3), of(0, "b", -2), of(0, "a", 1, 0, "c", 3)},
		{of(0, "a", 1, 0, "b", 2), of(0, "a", -1, 0, "b", -3), of(0, "b", -1)},
		{of(0, "a_", 1, 6, "a", 1), of(0, "a0", 1, 3, "z", 1), of(0, "a0", 1, 0, "a_", 1, 3, "z", 1, 6, "a", 1)},
		{of(0, "a", all), of(0, "a", -1), of(0, "a", all-1)},
		{of(0, "a", all), of(0, "a", -all), of()},
		{of(0, "a", all-1), of(0, "a", 1), of(0, "a", all)},
		{of(0, "a", -all+1), of(0, "a", -1), of(0, "a", -all)},
		{of(0, "a", all), of(0, "b", all), of(0, "a", all, 0, "b", all)}, // sums aren't asked for
		{api.Slip{Year: 2199, Index: 400, Lines: lines(2, "a", 1)}, api.Slip{Year: 2199, Index: 400}, api.Slip{Year: 2199, Index: 400, Lines: lines(2, "a", 1)}},
	} {
		for range 2 {
			got, e := slip.Merge(x.a, x.b)
			checkSame(t, fmt.Sprint("Merge of ", x.a, " and ", x.b), got, x.wanted)
			check(t, fmt.Sprint("error of Merge of ", x.a, " and ", x.b), e, api.OK)
			x.a, x.b = x.b, x.a
		}
	}
}

// TestP27_3Many: as many lines as there may be, of both slips together, those left out not counted.
func TestP27_3Many(t *testing.T) {
	all := numbered(448)
	turned := numbered(448)
	for i := range turned.Lines {
		turned.Lines[i].Cents = -1
	}
	one := of(0, "n", 5)
	for _, x := range []struct {
		a, b  api.Slip
		lines int
		e     api.Errno
	}{
		{all, of(), 448, api.OK},
		{all, all, 448, api.OK},
		{all, turned, 0, api.OK},
		{all, one, 0, api.ErrMany},
		{all, of(0, "n", 5, 0, "n000", -1), 448, api.OK},
		{all, of(0, "n", 5, 0, "n000", -1, 6, "z", 5), 0, api.ErrMany},
		{all, of(0, "n", 5, 0, "n000", int(most)), 0, api.ErrOverflow}, // ahead of ErrMany
		{all, of(0, "n", 5, 6, "n447", int(most)), 0, api.ErrOverflow},
	} {
		for range 2 {
			got, e := slip.Merge(x.a, x.b)
			check(t, "error of many", e, x.e)
			check(t, "lines of many", len(got.Lines), x.lines)
			x.a, x.b = x.b, x.a
		}
	}
}

func TestP27_3Errors(t *testing.T) {
	all := int(most)
	next, later := of(0, "a", all), of(0, "a", all)
	next.Index, later.Year = 3, 2025
	for _, x := range []struct {
		a, b api.Slip
		e    api.Errno
	}{
		{api.Slip{}, of(), api.ErrRange},
		{of(), api.Slip{}, api.ErrRange},
		{api.Slip{}, api.Slip{}, api.ErrRange},
		{of(7, "a", 1), of(0, "a", 0), api.ErrKind}, // a's ahead of b's
		{of(0, "a", 0), of(7, "a", 1), api.ErrZero},
		{of(0, "a", 1), of(0, "", 1), api.ErrName},
		{next, of(0, "a", 1, 0, "a", 1), api.ErrTwice}, // ahead of ErrState
		{of(0, "b", 1, 0, "a", 1), next, api.ErrOrder},
		{of(0, "a", 1), next, api.ErrState}, // ahead of ErrOverflow
		{of(0, "a", 1), later, api.ErrState},
		{later, next, api.ErrState},
		{of(0, "a", all), of(0, "a", 1), api.ErrOverflow},
		{of(0, "a", -all), of(0, "a", -1), api.ErrOverflow},
		{of(0, "a", all), of(0, "a", all), api.ErrOverflow},
		{of(0, "a", 1, 6, "z", all), of(0, "b", 1, 6, "z", all), api.ErrOverflow},
	} {
		got, e := slip.Merge(x.a, x.b)
		checkSame(t, fmt.Sprint("beside the error of Merge of ", x.a, " and ", x.b), got, api.Slip{})
		check(t, fmt.Sprint("error of Merge of ", x.a, " and ", x.b), e, x.e)
	}
}

func TestP27_3ByWords(t *testing.T) {
	r := rand.New(rand.NewSource(2731))
	seen := map[api.Errno]int{}
	for i := range 40000 {
		bits := []int{3, 20, 50}[i%3]
		a, b := someSlip(r, bits, 20), someSlip(r, bits, 20)
		if r.Intn(10) == 0 {
			a = spoil(r, a)
		}
		if r.Intn(10) == 0 {
			b = spoil(r, b)
		}
		wanted, wantedE := mergeByWords(a, b)
		got, e := slip.Merge(a, b)
		checkSame(t, "Merge of "+nameOf(a)+" and "+nameOf(b), got, wanted)
		check(t, "error of Merge of "+nameOf(a)+" and "+nameOf(b), e, wantedE)
		seen[e]++
	}
	for _, e := range []api.Errno{api.OK, api.ErrRange, api.ErrState, api.ErrOverflow, api.ErrTwice} {
		check(t, fmt.Sprint("error ", e, " is come to"), seen[e] > 50, true)
	}
}

// TestP27_4Back: a right slip is read from its text as it was.
func TestP27_4Back(t *testing.T) {
	r := rand.New(rand.NewSource(2741))
	for range 20000 {
		s := someSlip(r, 50, 20)
		s.Year, s.Index = 1900+r.Intn(300), 1+r.Intn(400)
		text := slip.Text(s)
		check(t, "Text of "+nameOf(s), text, textByWords(s))
		got, e := slip.Parse(text)
		checkSame(t, "back of "+nameOf(s), got, s)
		check(t, "error of back of "+nameOf(s), e, api.OK)
	}
	s := numbered(448)
	got, e := slip.Parse(slip.Text(s))
	checkSame(t, "back of many", got, s)
	check(t, "error of back of many", e, api.OK)
}

// TestP27_4Merged: what is merged is right, in either order the same, and its sums are those of both added; the net and what is held are together the gross.
func TestP27_4Merged(t *testing.T) {
	r := rand.New(rand.NewSource(2742))
	for i := range 20000 {
		bits := []int{3, 40}[i%2]
		a, b := someSlip(r, bits, 20), someSlip(r, bits, 20)
		m, e := slip.Merge(a, b)
		n, f := slip.Merge(b, a)
		what := nameOf(a) + " and " + nameOf(b)
		check(t, "errors of Merge of "+what, e == api.OK && f == api.OK, true)
		check(t, "what is merged of "+what, slip.Check(m), api.OK)
		checkSame(t, "the other way round, "+what, n, m)
		ofA, _ := sums(a)
		ofB, _ := sums(b)
		ofBoth, e := sums(m)
		check(t, "error of sums of "+what, e, api.OK)
		for i := range ofBoth {
			check(t, fmt.Sprint("sum ", i, " of "+what), ofBoth[i], ofA[i]+ofB[i])
		}
		check(t, "the net and what is held of "+what, ofBoth[2]+ofBoth[1], ofBoth[0])
	}
}

// TestMemory: what is handed in stays as it was, spare room included; what is answered is new.
func TestMemory(t *testing.T) {
	a, b := of(0, "b", 1, 0, "c", 2, 6, "x", 3), of(0, "a", 1, 0, "b", -1, 6, "y", 3)
	keptA, keptB := slices.Clone(a.Lines), slices.Clone(b.Lines)
	short, other := a, b
	short.Lines, other.Lines = a.Lines[:2], b.Lines[:2]
	first, _ := slip.Merge(short, other)
	again, _ := slip.Merge(short, other)
	alone, _ := slip.Merge(short, of())
	part, more := slip.Part(short, 0), slip.Part(short, 0)
	for _, l := range [][]api.Line{first.Lines, alone.Lines} {
		l[0] = api.Line{}
		_ = append(l[:1], api.Line{}, api.Line{}, api.Line{})
	}
	part[0] = api.Item{}
	_, _ = sums(short)
	_ = slip.Text(short) + slip.Why(short, 0)
	check(t, "lines of the first one", slices.Equal(a.Lines, keptA), true)
	check(t, "lines of the second one", slices.Equal(b.Lines, keptB), true)
	checkSame(t, "what was merged again", again, of(0, "a", 1, 0, "c", 2))
	check(t, "a part that was told again", slices.Equal(more, []api.Item{{Code: "b", Cents: 1}, {Code: "c", Cents: 2}}), true)
	parsed, _ := slip.Parse("slip 2024/02\ngross a 0.01\n")
	parsed.Lines[0].Cents = 5
	parsed, _ = slip.Parse("slip 2024/02\ngross a 0.01\n")
	checkSame(t, "what was parsed again", parsed, of(0, "a", 1))
}

// TestP1NoPanic hands each call what is farthest out.
func TestP1NoPanic(t *testing.T) {
	far := []int{lowest, lowest + 1, -int(most) - 1, -1, 0, 1, 6, 7, 400, 2024, int(most) + 1, highest - 1, highest}
	for _, a := range far {
		for _, b := range far {
			for _, c := range far {
				for _, s := range []api.Slip{{Year: a, Index: b, Lines: lines(a, "a", b, b, "a", c)}, of(a, "a", b, b, "a", c), of(0, "a", a, 0, "b", b, 6, "a", c)} {
					_, _ = sums(s)
					_, _ = slip.Merge(s, s)
					_, _ = slip.Merge(of(), s)
					_, _ = slip.Parse(slip.Text(s) + slip.Why(s, a))
					_ = slip.Part(s, c)
				}
			}
		}
	}
	_, _ = slip.Parse(strings.Repeat("\n", 100000))
	_, _ = slip.Parse("slip " + strings.Repeat("9", 100000) + "/" + strings.Repeat("0", 100000) + "\n")
	_, _ = slip.Parse("slip 2024/02\n" + strings.Repeat("gross a 0.01\n", 100000))
	_, _ = slip.Parse("slip 2024/02\ngross" + strings.Repeat(" ", 100000) + "0.01\n")
}
