package month_test

import (
	"fmt"
	"strings"
	"testing"

	"wagebook/api"
	"wagebook/fact"
	"wagebook/month"
	"wagebook/period"
)

// reads is a line of a formula.
func reads(code, formula string) string { return "element 0 0 2024-01-01 - " + code + " 0 " + formula }

// TestP22_2Environment: each formula is told in cents: so that of a name tells its hundredfold.
func TestP22_2Environment(t *testing.T) {
	lines := []string{
		"employ 0 1 2024-01-01 - - 1", "salary 0 1 2024-01-01 - - 6240000", "part 0 1 2024-01-01 - - 999999", "part 0 1 2024-01-31 - - 750000", "salary 0 1 2024-01-31 - - 6240001",
		"absent 0 1 2024-01-09 2024-01-10 unpaid 0", "sheet 0 1 2024-01-09 - - 600 90", "sheet 0 1 2024-01-10 - - 61",
		"rule 0 0 2024-01-01 - hours.day 480", "rule 0 0 2024-01-01 - night.rate 250000", "rule 0 0 2024-01-31 - meal 5000", "rule 0 0 2024-01-01 2024-01-31 gone 1", "rule 0 0 2024-02-01 - late 1",
		"rule 0 0 2024-01-01 - text 0 words", "rule 0 0 2024-01-01 - least -1125899906842624", "rule 0 0 2024-01-01 - most 1125899906842624", "rule 0 0 2024-01-01 - a-b 1",
		"rule 0 0 2024-01-01 - 9_" + strings.Repeat("n", 25) + " 10000", "rule 0 0 2024-01-01 - 9_" + strings.Repeat("n", 26) + " 10000", "rule 0 0 2024-01-01 - . 10000",
	}
	v := told(t, lines...)
	l, e := month.Gross(v, 1, january(t))
	checkSame(t, "amounts", l, e, items(t, "absent -22426, night 1125, over 9000, salary 515807"), api.OK)
	for formula, wanted := range map[string]string{
		"salary":                            "e 515807",
		"absent":                            "e -22426",
		"over":                              "e 9000",
		"night":                             "e 1125",
		"yearly":                            "e 6240001",
		"part":                              "e 75",
		"part*0.01":                         "e 1",
		"minutes.plain":                     "e 54100",
		"minutes.over":                      "e 12000",
		"minutes.night":                     "e 9000",
		"index":                             "e 100",
		"of":                                "e 1200",
		"rule:meal*10000":                   "e 5000",
		"rule:meal*2":                       "e 1", // 0.01
		"rule:meal":                         "e 1", // 0.005, away from 0
		"rule:text":                         "",
		"rule:least":                        "e -112589990684",
		"rule:most":                         "e 112589990684",
		"rule:hours.day*1000000":            "e 48000",
		"rule:9_" + strings.Repeat("n", 25): "e 1",
		"rule:.":                            "e 1",
	} {
		got, e := month.Gross(told(t, append(lines, reads("e", formula))...), 1, january(t))
		wantedItems := items(t, "absent -22426, night 1125, over 9000, salary 515807")
		if wanted != "" {
			wantedItems = append(wantedItems[:1:1], append(items(t, wanted), wantedItems[1:]...)...)
		}
		checkSame(t, "Gross with "+formula, got, e, wantedItems, api.OK)
	}
	for _, formula := range []string{"nothing", "gross", "rule:gone", "rule:late", "meal", "rule:", "minutes", "paid", "rule:9_" + strings.Repeat("m", 25), "0*nothing"} {
		checkNoGross(t, "with "+formula, told(t, append(lines, reads("e", formula))...), january(t), api.ErrUnknown)
	}
	checkNoGross(t, "with a long name", told(t, append(lines, reads("e", "rule:9_"+strings.Repeat("n", 26)))...), january(t), api.ErrLong)
}

// TestP22_2Nothing: what there is none of is 0 in the environment, and may be read.
func TestP22_2Nothing(t *testing.T) {
	names := []string{"salary", "absent", "over", "night", "yearly", "minutes.plain", "minutes.over", "minutes.night"}
	lines := []string{"employ 0 1 2024-01-31 - - 1"}
	for i, name := range names {
		lines = append(lines, reads(fmt.Sprint("e", i), "equal("+name+",0)*0.01"))
	}
	checkGross(t, "of nothing", told(t, lines...), january(t), "e0 1, e1 1, e2 1, e3 1, e4 1, e5 1, e6 1, e7 1")
}

// TestP22_2Wholes: an index, or how many there are, that is beyond the values of formulas isn't there.
func TestP22_2Wholes(t *testing.T) {
	p := january(t)
	for _, x := range []struct {
		index, of     int
		formula, want string
		e             api.Errno
	}{
		{1000000000000, 1000000000000, "equal(index,1000000000000)*0.01", "e 1", api.OK},
		{1000000000000, 1000000000000, "equal(of,index)*0.01", "e 1", api.OK},
		{1, 1000000000001, "index", "e 100", api.OK},
		{1, 1000000000001, "of", "", api.ErrUnknown},
		{1000000000001, 1 << 50, "index", "", api.ErrUnknown},
		{1000000000000, 1 << 50, "less(1,index)", "e 100", api.OK},
		{1 << 50, 1 << 50, "index", "", api.ErrUnknown},
		{1 << 50, 1 << 50, "of", "", api.ErrUnknown},
		{1 << 50, 1 << 50, "0.01", "e 1", api.OK},
	} {
		p.Index, p.Of = x.index, x.of
		v := told(t, "employ 0 1 2024-01-01 - - 1", reads("e", x.formula))
		got, e := month.Gross(v, 1, p)
		checkSame(t, fmt.Sprint("Gross of ", x), got, e, items(t, x.want), x.e)
	}
	p.Index, p.Of = 1000000000001, 1<<50 // then the name is free
	checkGross(t, "an element index", told(t, "employ 0 1 2024-01-01 - - 1", reads("index", "0.01"), reads("of", "0.02")), p, "index 1, of 2")
}

func TestP22_2Elements(t *testing.T) {
	checkSamples(t, []string{"employ 0 1 2024-01-01 - - 1"},
		sample{"e 1", []string{reads("e", "0.005")}},
		sample{"", []string{reads("e", "0.0049")}},
		sample{"e -1", []string{reads("e", "0-0.005")}},
		sample{"", []string{reads("e", "0-0.0049")}},
		sample{"e 2", []string{reads("e", "0.015")}},
		sample{"e 3", []string{reads("e", "0.025")}}, // away from 0, though 2 is the even one
		sample{"e -3", []string{reads("e", "0-0.025")}},
		sample{"", []string{reads("e", "1-1")}},
		sample{"e 100000000000000", []string{reads("e", "1000000000000")}},
		sample{"e -100000000000000", []string{reads("e", "0-1000000000000")}},
		sample{"b 200, c 300", []string{reads("c", "b+1"), reads("b", "2")}},
		sample{"c 300", []string{reads("c", "calc.b+1"), reads("calc.b", "2")}},
		sample{"", []string{reads("calc.", "2")}},
		sample{"calc 200, calc_a 300, calcs.x 400", []string{reads("calc", "2"), reads("calc_a", "3"), reads("calcs.x", "4")}},
		sample{"b 207", []string{reads("b", "2"), "bonus 0 1 2024-01-01 - b 7"}},
		sample{"", []string{reads("b", "2"), "bonus 0 1 2024-01-01 - b -200"}},
		sample{"calc.b 7", []string{reads("calc.b", "2"), "bonus 0 1 2024-01-01 - calc.b 7"}},
		sample{"e 300", []string{reads("e", "2"), reads("e", "3")}},
		sample{"e 200", []string{reads("e", "3"), reads("e", "2"), "element 0 0 2024-02-01 - e 0 4", "element 0 0 2024-01-01 2024-01-31 e 0 nothing"}},
		sample{"e 200", []string{reads("e", "2"), "element 0 0 2024-01-01 2024-01-31 e-e 0 1+", "element 0 0 2024-02-01 - e-f 0 1+"}},
		sample{"e 400", []string{reads("e", "3"), "element 0 0 2024-01-31 2024-02-01 e 0 4"}},
		sample{"", []string{reads("e", "3"), "cancel 0 0 1970-01-01 - - 2"}},
		sample{"e 100", []string{reads("e", "if(less(index,2),of*0+1,nothing-nothing)"), reads("nothing", "0")}},
	)
	for _, sign := range []string{"", "0-"} {
		limit := map[string]string{"": "1025899906842624", "0-": "-1025899906842624"}[sign] // with 10^14 it is the limit
		lines := []string{"employ 0 1 2024-01-01 - - 1", reads("e", sign+"1000000000000"), "bonus 0 1 2024-01-01 - e " + limit}
		_, e := month.Gross(told(t, lines...), 1, january(t))
		check(t, "error of as much as there may be", e, api.OK)
		lines = append(lines, "bonus 0 1 2024-01-01 - e "+map[string]string{"": "1", "0-": "-1"}[sign])
		checkNoGross(t, "of a cent more", told(t, lines...), january(t), api.ErrOverflow)
	}
}

func TestP22_2ElementErrors(t *testing.T) {
	for _, x := range []struct {
		wanted api.Errno
		lines  []string
	}{
		{api.ErrName, []string{reads("e-e", "1")}},
		{api.ErrName, []string{reads("1e", "1")}},
		{api.ErrName, []string{reads(".e", "1")}},
		{api.ErrName, []string{reads("_", "1")}},
		{api.ErrName, []string{reads("a-a", "1+"), reads("b", "1+")}}, // Code by Code
		{api.ErrForm, []string{reads("a", "1+"), reads("b-b", "1+")}},
		{api.ErrForm, []string{reads("a", "1+"), reads("b", "both(1)")}},
		{api.ErrUnknown, []string{reads("a", "both(1)"), reads("b", "1+")}},
		{api.ErrUnknown, []string{reads("b", "both(1)"), reads("a", "nothing")}},
		{api.ErrLong, []string{reads("a", strings.Repeat("a", 33))}},
		{api.ErrRange, []string{reads("a", "1000000000000.0001")}},
		{api.ErrMany, []string{reads("a", strings.Repeat("1+(", 150)+"1"+strings.Repeat(")", 150))}},
		{api.ErrDeep, []string{reads("a", strings.Repeat("1+(", 16)+"1"+strings.Repeat(")", 16))}},
		{api.ErrTwice, []string{reads("salary", "1")}},
		{api.ErrTwice, []string{reads("absent", "1")}},
		{api.ErrTwice, []string{reads("over", "1")}},
		{api.ErrTwice, []string{reads("night", "1")}},
		{api.ErrTwice, []string{reads("yearly", "1")}},
		{api.ErrTwice, []string{reads("part", "1")}},
		{api.ErrTwice, []string{reads("index", "1")}},
		{api.ErrTwice, []string{reads("of", "1")}},
		{api.ErrTwice, []string{reads("minutes.plain", "1")}},
		{api.ErrTwice, []string{reads("minutes.over", "1")}},
		{api.ErrTwice, []string{reads("minutes.night", "1")}},
		{api.ErrRing, []string{reads("a", "b"), reads("b", "a")}},
		{api.ErrUnknown, []string{reads("a", "nothing"), reads("b", "1000000000000*2")}},
		{api.ErrOverflow, []string{reads("b", "nothing"), reads("a", "1000000000000*2")}}, // as they are ordered
		{api.ErrOverflow, []string{reads("calc.a", "1000000000000+0.0001")}},
	} {
		checkNoGross(t, fmt.Sprintf("of %.200s", fmt.Sprint(x.lines)), told(t, with(x.lines...)...), january(t), x.wanted)
	}
}

// TestP22_2Amounts: none of the amounts that formulas may read is beyond their values, whether or not there are formulas.
func TestP22_2Amounts(t *testing.T) {
	const limit = 100000000000000
	salary := func(num int64) fact.Fact {
		return fact.Fact{Person: 1, Kind: fact.Salary, From: newYear, Num: num}
	}
	begun := parsed(t, "employ 0 1 2024-01-01 - - 1")[0]
	year := span(newYear, 31)
	checkGross(t, "of as much as there may be", known(t, begun, salary(limit)), year, fmt.Sprint("salary ", limit))
	checkNoGross(t, "of a cent more", known(t, begun, salary(limit+1)), year, api.ErrOverflow)
	checkNoGross(t, "of a cent more, of which a part is paid", known(t, begun, salary(limit+1)), january(t), api.ErrOverflow)
	last := salary(5)
	last.From = newYear + 30
	low, high := limit*31/30, limit*31/30+100
	checkGross(t, "of a salary, but for the last day", known(t, begun, salary(int64(low)), last), year, fmt.Sprint("salary ", limit))
	checkNoGross(t, "of a salary, but for the last day, beyond", known(t, begun, salary(int64(high)), last), year, api.ErrOverflow)
	unpaid := parsed(t, "absent 0 1 2024-01-01 - unpaid 0")[0]
	checkGross(t, "of as much as there may be, all lost", known(t, begun, salary(limit), unpaid), year, fmt.Sprint("absent ", -limit, ", salary ", limit))
	bonus := parsed(t, "bonus 0 1 2024-01-01 - salary 1000000000000000")[0] // it isn't what formulas read
	checkGross(t, "with a bonus", known(t, begun, salary(5), bonus), year, "salary 1000000000000005")
	for name, x := range map[string][]string{
		"over":  {"rule 0 0 2024-01-01 - hours.day 0", "rule 0 0 2024-01-01 - over.rate 10000000"},
		"night": {"rule 0 0 2024-01-01 - night.rate 10000000"},
	} { // 500 hours, each paid tenfold, of 2 * 10^10
		lines := append([]string{"employ 0 1 2024-01-01 - - 1", "part 0 1 2024-01-01 - - 0"}, x...)
		for i := range 25 {
			lines = append(lines, fmt.Sprintf("sheet 0 1 2024-01-%02d - - 1200 1200", i+1))
		}
		checkGross(t, "of as much "+name+" as there may be", told(t, append(lines, "salary 0 1 2024-01-31 - - 41600000000000")...), january(t), fmt.Sprint(name, " ", limit))
		checkNoGross(t, "of more "+name, told(t, append(lines, "salary 0 1 2024-01-31 - - 41600000002080")...), january(t), api.ErrOverflow)
	}
	lines := []string{"employ 0 1 2024-01-01 - - 1", "salary 0 1 2024-01-01 - - 5", "bonus 0 1 2024-01-09 - absent -1000000000000000", "bonus 0 1 2024-01-09 - over 1000000000000000"}
	checkGross(t, "with other bonuses", told(t, lines...), year, "absent -1000000000000000, over 1000000000000000, salary 5")
}

// TestP22_2Periods: formulas read the period's own numbers.
func TestP22_2Periods(t *testing.T) {
	v := told(t, with(reads("e", "index*100+of"))...)
	for _, c := range []period.Calendar{months(), {Kind: period.Biweekly, First: newYear}, {Kind: period.Fourweekly, First: newYear}} {
		l, e := month.Year(v, 1, c, 2025)
		check(t, "error of a year", e, api.OK)
		for i, m := range l {
			wanted := api.Item{Code: "e", Cents: api.Cents(100 * ((i+1)*100 + len(l)))}
			check(t, fmt.Sprint("the formula of ", m.Index, " of ", m.Of), m.Gross[0], wanted)
		}
	}
}
