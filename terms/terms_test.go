package terms_test

import (
	"fmt"
	"math/rand"
	"regexp"
	"slices"
	"strconv"
	"strings"
	"testing"

	"wagebook/api"
	"wagebook/fact"
	"wagebook/store"
	"wagebook/terms"
	"wagebook/week"
)

// person is facts of person 1.
func person(kind int, a, b api.Day, num int64, text string) fact.Fact {
	return fact.Fact{Person: 1, Kind: kind, From: a, To: b, Num: num, Text: text}
}

func TestP16_1Of(t *testing.T) {
	v := told(t,
		person(fact.Employ, 100, 0, 1, ""), person(fact.Salary, 100, 0, 6000000, ""), person(fact.Salary, 200, 0, 7200000, ""), person(fact.Part, 200, 300, 500000, ""),
		person(fact.Hours, 250, 0, 0, "240 0 0 1440 1 0 7"), person(fact.Cost, 400, 500, 0, "a:60 b:40"), person(fact.Employ, 450, 0, 0, ""))
	var wanted []terms.Terms
	now := plain(from(90, 100))
	next := func(d api.Day, change func()) {
		now.Span.To = d
		wanted = append(wanted, now)
		now.Span.From = d
		change()
	}
	next(100, func() { now.Employed, now.Salary = true, 6000000 })
	next(200, func() { now.Salary, now.Part = 7200000, 500000 })
	next(250, func() { now.Hours = week.Week{240, 0, 0, 1440, 1, 0, 7} })
	next(300, func() { now.Part = 1000000 })
	next(400, func() { now.Cost = "a:60 b:40" })
	next(450, func() { now.Employed = false })
	next(500, func() { now.Cost = "firm:1" })
	next(600, func() {})
	checkOf(t, "all", v, 1, from(90, 600), wanted...)
	for i, x := range wanted {
		checkOf(t, fmt.Sprint("piece ", i), v, 1, x.Span, x)
		x.Span = from(x.Span.To-1, x.Span.To)
		checkOf(t, fmt.Sprint("last day of piece ", i), v, 1, x.Span, x)
	}
	checkOf(t, "another person", v, 2, from(90, 600), plain(from(90, 600)))
	checkOf(t, "the firm", v, 0, from(90, 600), plain(from(90, 600)))
}

// TestP16_1Without: what was not told is 0, but all of a part, full days from Monday to Friday, and the firm's cost.
func TestP16_1Without(t *testing.T) {
	all := from(firstDay, lastDay+1)
	checkOf(t, "the zero view", store.View{}, 1, all, plain(all))
	one := plain(all)
	one.Employed = true
	checkOf(t, "employed alone", told(t, person(fact.Employ, firstDay, 0, 1, "")), 1, all, one)
	one = plain(all)
	one.Salary = api.MaxCents
	checkOf(t, "a salary alone", told(t, person(fact.Salary, firstDay, lastDay+1, api.MaxCents, "")), 1, all, one)
	one = plain(all)
	one.Part = 0
	checkOf(t, "a part alone", told(t, person(fact.Part, firstDay, lastDay+1, 0, "")), 1, all, one)
	one = plain(all)
	one.Hours = week.Week{}
	checkOf(t, "hours alone", told(t, person(fact.Hours, firstDay, 0, 0, "0 0 0 0 0 0 0")), 1, all, one)
	one = plain(all)
	one.Cost = "x:1000000"
	checkOf(t, "a cost alone", told(t, person(fact.Cost, firstDay, 0, 0, "x:1000000")), 1, all, one)
}

// TestP16_1Merged: facts of the same value, and those that say what goes without saying, part no days.
func TestP16_1Merged(t *testing.T) {
	v := told(t,
		person(fact.Employ, 5, 0, 0, ""), person(fact.Salary, 6, 0, 0, ""), person(fact.Part, 7, 0, 1000000, ""), person(fact.Hours, 8, 0, 0, "480 480 480 480 480 0 0"), person(fact.Cost, 9, 0, 0, "firm:1"),
		person(fact.Employ, 15, 25, 0, ""), person(fact.Salary, 16, 26, 0, ""), person(fact.Part, 17, 27, 1000000, ""), person(fact.Hours, 18, 28, 0, "480 480 480 480 480 0 0"), person(fact.Cost, 19, 29, 0, "firm:1"))
	checkOf(t, "what goes without saying", v, 1, from(0, 50), plain(from(0, 50)))
	v = told(t, person(fact.Salary, 0, 10, 5, ""), person(fact.Salary, 10, 20, 5, ""), person(fact.Salary, 20, 30, 6, ""), person(fact.Salary, 25, 0, 5, ""))
	with := func(s api.Span, salary api.Cents) terms.Terms {
		x := plain(s)
		x.Salary = salary
		return x
	}
	checkOf(t, "one salary twice", v, 1, from(-5, 40), with(from(-5, 0), 0), with(from(0, 20), 5), with(from(20, 25), 6), with(from(25, 40), 5))
	v = told(t, person(fact.Salary, 0, 10, 5, ""), person(fact.Cost, 10, 20, 0, "a:1"), person(fact.Cost, 20, 30, 0, "a:2"), person(fact.Cost, 30, 40, 0, "a:1 b:1"), person(fact.Cost, 40, 0, 0, "b:1 a:1"))
	l, e := terms.Of(v, 1, from(0, 50))
	check(t, "error", e, api.OK)
	check(t, "how many costs that aren't the same text", len(l), 5)
}

// TestP16_1Span: the days must be in the calendar, if there are any.
func TestP16_1Span(t *testing.T) {
	v := told(t, person(fact.Employ, firstDay, 0, 1, ""))
	for _, s := range []api.Span{{}, from(5, 5), from(6, 5), from(highest, lowest), from(lowest, lowest), from(highest, highest), from(lastDay+1, lastDay+1), from(firstDay-1, firstDay-1), from(lastDay+9, firstDay-9)} {
		checkOf(t, fmt.Sprint("days of ", s), v, 1, s)
	}
	for _, s := range []api.Span{
		from(firstDay-1, firstDay), from(firstDay-1, 0), from(firstDay-1, lastDay+1), from(firstDay, lastDay+2), from(lastDay, lastDay+2), from(lastDay+1, lastDay+2), from(84000, 84007), from(0, highest), from(lowest, 0), from(lowest, highest), from(lowest, lowest+1), from(highest-1, highest), from(-30000, -29000), from(90000, 91000),
	} {
		l, e := terms.Of(v, 1, s)
		check(t, fmt.Sprint("error of ", s), e, api.ErrSpan)
		check(t, fmt.Sprint("terms of ", s), len(l), 0)
	}
	for _, s := range []api.Span{from(firstDay, firstDay+1), from(lastDay, lastDay+1), from(firstDay, lastDay+1)} {
		x := plain(s)
		x.Employed = true
		checkOf(t, fmt.Sprint("days of ", s), v, 1, s, x)
	}
}

// TestP16_1View: terms are those of a view, without what it takes back.
func TestP16_1View(t *testing.T) {
	s := stored(t, person(fact.Salary, 0, 0, 5, ""), person(fact.Salary, 0, 0, 6, ""), fact.Fact{Kind: fact.Cancel, Num: 2}, fact.Fact{Kind: fact.Cancel, Num: 1})
	for n, wanted := range []api.Cents{0, 5, 6, 5, 0} {
		x := plain(from(0, 10))
		x.Salary = wanted
		checkOf(t, fmt.Sprint("behind facts ", n), s.At(n), 1, from(0, 10), x)
	}
}

// places are first days around which facts stand: the calendar's first ones and last ones, those around 1970, where a To of 0 is none, and others.
func places() []api.Day {
	return []api.Day{firstDay, -10, 0, newYear, lastDay - 25, lastDay - 10}
}

func TestP16ByWords(t *testing.T) {
	r := rand.New(rand.NewSource(16))
	for i := range 3000 {
		first := places()[i%len(places())]
		w := someFacts(r, first)
		n := r.Intn(len(w) + 1)
		v, known := stored(t, w...).At(n), w[:n]
		for who := range uint32(4) {
			what := fmt.Sprint("person ", who, " of ", known)
			a, b := first-5+api.Day(r.Intn(40)), first-5+api.Day(r.Intn(40))
			s := from(min(a, b), max(a, b))
			wanted, wantedE := known.of(who, s)
			got, e := terms.Of(v, who, s)
			check(t, "error of "+what, e, wantedE)
			checkList(t, what, got, wanted)
			checkList(t, "Employed of "+what, terms.Employed(v, who, s).All(), known.employed(who, s))
			d, ok := terms.First(v, who)
			wantedD, wantedOk := known.first(who, first)
			check(t, "First of "+what, d, wantedD)
			check(t, "is a First of "+what, ok, wantedOk)
		}
		if t.Failed() {
			return
		}
	}
}

func TestP16_2Employed(t *testing.T) {
	v := told(t, person(fact.Employ, 10, 20, 1, ""), person(fact.Employ, 20, 30, 1, ""), person(fact.Employ, 25, 27, 0, ""), person(fact.Employ, 40, 0, 1, ""), person(fact.Salary, 0, 0, 5, ""))
	for s, wanted := range map[api.Span][]api.Span{
		from(0, 50):                     {from(10, 25), from(27, 30), from(40, 50)},
		from(15, 26):                    {from(15, 25)},
		from(25, 27):                    nil,
		from(26, 28):                    {from(27, 28)},
		from(0, 10):                     nil,
		from(30, 40):                    nil,
		from(9, 11):                     {from(10, 11)},
		from(40, highest):               {from(40, lastDay+1)},
		from(lowest, highest):           {from(10, 25), from(27, 30), from(40, lastDay+1)},
		from(lastDay, lastDay+2):        {from(lastDay, lastDay+1)},
		from(lastDay+1, lastDay+2):      nil,
		from(lowest, firstDay):          nil,
		from(20, 10):                    nil,
		from(highest, lowest):           nil,
		{}:                              nil,
		from(firstDay-100, firstDay+99): nil,
	} {
		checkList(t, fmt.Sprint("Employed of ", s), terms.Employed(v, 1, s).All(), wanted)
		check(t, fmt.Sprint("days of another one in ", s), terms.Employed(v, 2, s).Days(), 0)
		check(t, fmt.Sprint("days of the firm in ", s), terms.Employed(v, 0, s).Days(), 0)
		check(t, fmt.Sprint("days of nobody in ", s), terms.Employed(store.View{}, 1, s).Days(), 0)
	}
	checkList(t, "all days", terms.Employed(told(t, person(fact.Employ, firstDay, 0, 1, "")), 1, from(lowest, highest)).All(), []api.Span{from(firstDay, lastDay+1)})
}

func TestP16_2First(t *testing.T) {
	for i, x := range []struct {
		l  []fact.Fact
		d  api.Day
		ok bool
	}{
		{nil, 0, false},
		{[]fact.Fact{person(fact.Salary, 0, 0, 1, "")}, 0, false},
		{[]fact.Fact{person(fact.Employ, 5, 0, 0, "")}, 0, false},
		{[]fact.Fact{person(fact.Employ, 5, 0, 1, "")}, 5, true},
		{[]fact.Fact{person(fact.Employ, 0, 0, 1, "")}, 0, true},
		{[]fact.Fact{person(fact.Employ, firstDay, firstDay+1, 1, "")}, firstDay, true},
		{[]fact.Fact{person(fact.Employ, lastDay, lastDay+1, 1, "")}, lastDay, true},
		{[]fact.Fact{person(fact.Employ, 5, 9, 1, ""), person(fact.Employ, -5, 0, 1, "")}, -5, true},
		{[]fact.Fact{person(fact.Employ, 5, 9, 1, ""), person(fact.Employ, 3, 7, 0, "")}, 7, true},
		{[]fact.Fact{person(fact.Employ, 5, 9, 1, ""), person(fact.Employ, 3, 9, 0, "")}, 0, false},
		{[]fact.Fact{person(fact.Employ, 5, 9, 1, ""), person(fact.Employ, 3, 9, 0, ""), person(fact.Employ, 8, 9, 1, "")}, 8, true},
		{[]fact.Fact{person(fact.Employ, 5, 9, 1, ""), person(fact.Employ, 3, 9, 0, ""), {Kind: fact.Cancel, Num: 2}}, 5, true},
		{[]fact.Fact{person(fact.Employ, 5, 9, 1, ""), {Kind: fact.Cancel, Num: 1}}, 0, false},
		{[]fact.Fact{{Person: 2, Kind: fact.Employ, From: 5, Num: 1}}, 0, false},
	} {
		d, ok := terms.First(told(t, x.l...), 1)
		check(t, fmt.Sprint("First of ", i), d, x.d)
		check(t, fmt.Sprint("is a First of ", i), ok, x.ok)
	}
	_, ok := terms.First(told(t, person(fact.Employ, 5, 0, 1, "")), 0)
	check(t, "is a First of the firm", ok, false)
}

// checkCosts fails the test, if a text's weights are others than were wanted.
func checkCosts(t *testing.T, s string, e api.Errno, wanted ...api.Weight) {
	t.Helper()
	got, wrong := terms.Costs(s)
	check(t, fmt.Sprintf("error of %.100q", s), wrong, e)
	checkList(t, fmt.Sprintf("Costs of %.100q", s), got, wanted)
}

func TestP16_3Costs(t *testing.T) {
	checkCosts(t, "firm:1", api.OK, api.Weight{Name: "firm", Weight: 1})
	checkCosts(t, "b:60 a:40", api.OK, api.Weight{Name: "b", Weight: 60}, api.Weight{Name: "a", Weight: 40})
	checkCosts(t, "x.y:1000000 -a:999999 _:1 --:2 0:3 9.:10", api.OK,
		api.Weight{Name: "x.y", Weight: 1000000}, api.Weight{Name: "-a", Weight: 999999}, api.Weight{Name: "_", Weight: 1}, api.Weight{Name: "--", Weight: 2}, api.Weight{Name: "0", Weight: 3}, api.Weight{Name: "9.", Weight: 10})
	long := strings.Repeat("n", 32)
	checkCosts(t, long+":7", api.OK, api.Weight{Name: long, Weight: 7})
	for _, s := range []string{
		"", " ", ":", "a", "a:", ":1", "a:0", "a:01", "a:00", "a:+1", "a:-1", "a:1.0", "a:1000001", "a:10000000", "a:99999999999999999999", "a:18446744073709551617", "a:1x", "a:x", "a 1", "a: 1", "a :1", "a::1", "a:1:1", "a:1:",
		"-:1", "A:1", "a!:1", "ä:1", "a/b:1", long + "n:1", "a:1 a:2", "a:1 b:1 a:1", " a:1", "a:1 ", "a:1  b:1", "a:1,b:1", "a:1\tb:1", "a:1\n", "a:1 b", "a:1 b:0", "a:1\x00", "a:\uff11", strings.Repeat("a:1 ", 2000),
	} {
		checkCosts(t, s, api.ErrForm)
	}
}

// some is the text of so many weights, and these.
func some(n int) (string, []api.Weight) {
	var texts []string
	var l []api.Weight
	for i := range n {
		x := api.Weight{Name: strings.Repeat("n", 30) + strconv.Itoa(10+i), Weight: int64(1000000 - i)}
		texts = append(texts, x.Name+":"+strconv.FormatInt(x.Weight, 10))
		l = append(l, x)
	}
	return strings.Join(texts, " "), l
}

// TestP16_3Many: at most 64 weights.
func TestP16_3Many(t *testing.T) {
	for _, n := range []int{1, 2, 63, 64} {
		s, wanted := some(n)
		checkCosts(t, s, api.OK, wanted...)
	}
	for _, n := range []int{65, 66, 80} {
		s, _ := some(n)
		checkCosts(t, s, api.ErrForm)
	}
}

var (
	costForm   = regexp.MustCompile(`^[a-z0-9._-]{1,32}:[1-9][0-9]*( [a-z0-9._-]{1,32}:[1-9][0-9]*)*$`)
	weightForm = regexp.MustCompile(`([^ ]+):([0-9]+)`)
)

// costsByWords is a text's weights, by the words.
func costsByWords(s string) ([]api.Weight, api.Errno) {
	if !costForm.MatchString(s) {
		return nil, api.ErrForm
	}
	var l []api.Weight
	for _, x := range weightForm.FindAllStringSubmatch(s, -1) {
		n, err := strconv.Atoi(x[2])
		isTwice := slices.ContainsFunc(l, func(w api.Weight) bool { return w.Name == x[1] })
		if err != nil || n > 1000000 || x[1] == "-" || isTwice || len(l) == 64 {
			return nil, api.ErrForm
		}
		l = append(l, api.Weight{Name: x[1], Weight: int64(n)})
	}
	return l, api.OK
}

func TestP16_3ByWords(t *testing.T) {
	r := rand.New(rand.NewSource(163))
	pieces := []string{"a", "b", "-", "z.", ":", ":", ":", " ", " ", "1", "0", "23", "1000000", "1000001", "A", "", "a:1", "b:20 c:3"}
	right := 0
	for range 100000 {
		s := ""
		for range r.Intn(8) {
			s += pieces[r.Intn(len(pieces))]
		}
		wanted, e := costsByWords(s)
		checkCosts(t, s, e, wanted...)
		if e == api.OK {
			right++
		}
	}
	check(t, "are enough of them right", right > 1000, true)
}

// TestP16_3Told: each cost of terms is one of weights.
func TestP16_3Told(t *testing.T) {
	v := told(t, person(fact.Cost, 0, 0, 0, "a:1 b:2"))
	l, _ := terms.Of(v, 1, from(-1, 1))
	check(t, "how many pieces", len(l), 2)
	for i, wanted := range [][]api.Weight{{{Name: "firm", Weight: 1}}, {{Name: "a", Weight: 1}, {Name: "b", Weight: 2}}} {
		checkCosts(t, l[i].Cost, api.OK, wanted...)
	}
}

// TestP16_4Parts: a span that is cut anywhere has the same terms, and their days are Employed's.
func TestP16_4Parts(t *testing.T) {
	r := rand.New(rand.NewSource(164))
	for range 1000 {
		w := someFacts(r, newYear)
		v := told(t, w...)
		s := from(newYear-5, newYear+40)
		cut := s.From + api.Day(r.Intn(46))
		all, _ := terms.Of(v, 1, s)
		parts, _ := terms.Of(v, 1, from(s.From, cut))
		rest, _ := terms.Of(v, 1, from(cut, s.To))
		if len(parts) > 0 && len(rest) > 0 {
			last := parts[len(parts)-1]
			last.Span = rest[0].Span
			if last == rest[0] {
				rest[0].Span.From = parts[len(parts)-1].Span.From
				parts = parts[:len(parts)-1]
			}
		}
		checkList(t, fmt.Sprint("parts of ", w), append(parts, rest...), all)
		days := 0
		employed := terms.Employed(v, 1, s)
		for _, x := range all {
			for d := x.Span.From; d < x.Span.To; d++ {
				check(t, "is it employed", employed.Has(d), x.Employed)
				if x.Employed {
					days++
				}
			}
		}
		check(t, "how many days", employed.Days(), days)
	}
}

// TestMemory: an answer that is changed changes no other one.
func TestMemory(t *testing.T) {
	v := told(t, person(fact.Employ, 0, 5, 1, ""), person(fact.Cost, 5, 0, 0, "a:1 b:2"))
	a, _ := terms.Of(v, 1, from(0, 9))
	b, _ := terms.Of(v, 1, from(0, 9))
	wanted := slices.Clone(b)
	a[0].Hours[0], a[1].Cost = 7, "changed"
	checkList(t, "another answer", b, wanted)
	c, _ := terms.Of(v, 1, from(0, 9))
	checkList(t, "a later answer", c, wanted)
	x, _ := terms.Costs("a:1 b:2")
	x[0].Name = "changed"
	checkCosts(t, "a:1 b:2", api.OK, api.Weight{Name: "a", Weight: 1}, api.Weight{Name: "b", Weight: 2})
}
