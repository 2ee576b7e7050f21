package absent_test

import (
	"fmt"
	"math"
	"math/rand"
	"slices"
	"strings"
	"testing"

	"wagebook/absent"
	"wagebook/api"
	"wagebook/store"
	"wagebook/week"
)

func TestP18_1Of(t *testing.T) {
	v := told(t,
		tells(1, 100, 200, "sick", 1000000), tells(1, 150, 160, "leave", 500000), tells(1, 190, 230, "unpaid", 0), tells(1, 300, 0, "parental", 670000), tells(2, 150, 151, "sick", 1), tells(1, 155, 165, "leave", 500000), tells(1, 165, 170, "leave", 500000))
	all := []absent.Absence{
		away(100, 150, absent.Sick, 1000000, 1), away(150, 155, absent.Leave, 500000, 2), away(155, 165, absent.Leave, 500000, 6), away(165, 170, absent.Leave, 500000, 7),
		away(170, 190, absent.Sick, 1000000, 1), away(190, 230, absent.Unpaid, 0, 3), away(300, 400, absent.Parental, 670000, 4)}
	checkOf(t, "all", v, 1, from(0, 400), all...)
	for _, a := range all {
		checkOf(t, fmt.Sprint("alone ", a), v, 1, a.Span, a)
		a.Span = from(a.Span.To-1, a.Span.To)
		checkOf(t, fmt.Sprint("last day ", a), v, 1, a.Span, a)
	}
	checkOf(t, "between", v, 1, from(230, 300))
	checkOf(t, "cut", v, 1, from(152, 156), away(152, 155, absent.Leave, 500000, 2), away(155, 156, absent.Leave, 500000, 6))
	checkOf(t, "without end", v, 1, from(299, lastDay+1), away(300, lastDay+1, absent.Parental, 670000, 4))
	checkOf(t, "another person", v, 2, calendar(), away(150, 151, absent.Sick, 1, 5))
	checkOf(t, "somebody else", v, 3, calendar())
	checkOf(t, "the firm", v, 0, calendar())
	checkOf(t, "the zero view", store.View{}, 1, calendar())
}

func TestP18_1AsItWasKnown(t *testing.T) {
	s := stored(t, tells(1, 10, 20, "sick", 1000000), tells(1, 5, 15, "leave", 1000000), cancel(2), tells(1, 12, 13, "sick", 1000000), cancel(1))
	sick := away(10, 20, absent.Sick, 1000000, 1)
	for n, wanted := range [][]absent.Absence{
		{},
		{sick},
		{away(5, 15, absent.Leave, 1000000, 2), away(15, 20, absent.Sick, 1000000, 1)},
		{sick},
		{away(10, 12, absent.Sick, 1000000, 1), away(12, 13, absent.Sick, 1000000, 4), away(13, 20, absent.Sick, 1000000, 1)},
		{away(12, 13, absent.Sick, 1000000, 4)},
	} {
		checkOf(t, fmt.Sprint("behind ", n), s.At(n), 1, from(0, 30), wanted...)
	}
}

func TestP18_1Span(t *testing.T) {
	v := told(t, tells(1, firstDay, 0, "sick", 7))
	checkOf(t, "the calendar", v, 1, calendar(), away(firstDay, lastDay+1, absent.Sick, 7, 1))
	checkOf(t, "its first day", v, 1, from(firstDay, firstDay+1), away(firstDay, firstDay+1, absent.Sick, 7, 1))
	checkOf(t, "its last day", v, 1, from(lastDay, lastDay+1), away(lastDay, lastDay+1, absent.Sick, 7, 1))
	for _, s := range []api.Span{{}, from(5, 5), from(9, 5), from(highest, lowest), from(lowest, lowest), from(highest, highest), from(lastDay+1, lastDay+1), from(lastDay+9, lastDay), from(5, firstDay-1)} {
		checkOf(t, fmt.Sprint("no days, ", s), v, 1, s)
	}
	for _, s := range []api.Span{from(firstDay-1, 5), from(5, lastDay+2), from(firstDay-1, firstDay), from(lastDay+1, lastDay+2), from(firstDay-1, lastDay+2), always(), from(lowest, lowest+1), from(highest-1, highest), from(5, highest), from(lowest, 5)} {
		for _, person := range []uint32{0, 1, 2} {
			got, e := absent.Of(v, person, s)
			check(t, fmt.Sprint("error of ", s), e, api.ErrSpan)
			check(t, "absences beside it", len(got), 0)
		}
	}
}

func TestP18_1Kind(t *testing.T) {
	for code, wanted := range map[string]int{"sick": absent.Sick, "leave": absent.Leave, "unpaid": absent.Unpaid, "parental": absent.Parental} {
		kind, ok := absent.Kind(code)
		check(t, code, kind, wanted)
		check(t, "is "+code, ok, true)
	}
	for _, code := range []string{"", "-", "Sick", "sick ", " sick", "ill", "sic", "sicks", "parent", "leave\x00", "0", "unpaid,leave", strings.Repeat("sick", 2000)} {
		kind, ok := absent.Kind(code)
		check(t, fmt.Sprintf("kind of %.20q", code), kind, 0)
		check(t, fmt.Sprintf("is %.20q one", code), ok, false)
	}
	checkList(t, "the kinds", []int{absent.Sick, absent.Leave, absent.Unpaid, absent.Parental}, []int{0, 1, 2, 3})
}

func TestP18_1ByWords(t *testing.T) {
	r := rand.New(rand.NewSource(181))
	for range 3000 {
		first := []api.Day{firstDay, lastDay - 25, -10, monday}[r.Intn(4)]
		w := someFacts(r, first)
		s := stored(t, w...)
		n := r.Intn(len(w) + 1)
		days := from(first+api.Day(r.Intn(20)-2), first+api.Day(r.Intn(34)))
		for person := range uint32(3) {
			got, e := absent.Of(s.At(n), person, days)
			wanted, wantedE := ofByWords(w[:n], person, days)
			check(t, fmt.Sprint("error of ", days), e, wantedE)
			checkList(t, fmt.Sprint("Of ", w[:n], days), got, wanted)
		}
	}
}

func TestP18_2Example(t *testing.T) {
	v := told(t, tells(1, monday, monday+5, "sick", 1000000), tells(1, monday+2, monday+3, "leave", 1000000))
	l, e := absent.Of(v, 1, from(monday, monday+28))
	check(t, "error", e, api.OK)
	checkList(t, "absences", l, []absent.Absence{away(monday, monday+2, absent.Sick, 1000000, 1), away(monday+2, monday+3, absent.Leave, 1000000, 2), away(monday+3, monday+5, absent.Sick, 1000000, 1)})
	s := from(monday, monday+28)
	check(t, "sick minutes", absent.Minutes(l, office(), s, absent.Sick), 1920)
	check(t, "sick days", absent.Days(l, office(), s, absent.Sick), 4)
	check(t, "minutes of leave", absent.Minutes(l, office(), s, absent.Leave), 480)
	check(t, "days of leave", absent.Days(l, office(), s, absent.Leave), 1)
	check(t, "unpaid minutes", absent.Minutes(l, office(), s, absent.Unpaid), 0)
	check(t, "parental days", absent.Days(l, office(), s, absent.Parental), 0)
}

// TestP18_2AnyAbsences: of any days and kinds, days in several of them count once.
func TestP18_2AnyAbsences(t *testing.T) {
	p := week.Pattern{Week: week.Week{1, 10, 100, 1000, 0, 0, 1440}, Free: []api.Day{monday + 8}}
	for i, x := range []struct {
		l             []absent.Absence
		s             api.Span
		kind          int
		minutes, days int
	}{
		{nil, always(), 0, 0, 0},
		{[]absent.Absence{{}}, always(), 0, 0, 0},
		{[]absent.Absence{away(monday, monday+4, 9, 0, 0)}, always(), 9, 1111, 4},
		{[]absent.Absence{away(monday, monday+4, -7, -1, -1)}, always(), -7, 1111, 4},
		{[]absent.Absence{away(monday, monday+4, math.MinInt, 0, 0)}, always(), math.MinInt, 1111, 4},
		{[]absent.Absence{away(monday, monday+4, 0, 0, 0)}, always(), 4, 0, 0},
		{[]absent.Absence{away(monday, monday+7, 1, 0, 0)}, always(), 1, 2551, 5},
		{[]absent.Absence{away(monday, monday+14, 1, 0, 0)}, always(), 1, 2*2551 - 10, 9},
		{[]absent.Absence{away(monday+8, monday+9, 1, 0, 0)}, always(), 1, 0, 0}, // the free day
		{[]absent.Absence{away(monday+4, monday+6, 1, 0, 0)}, always(), 1, 0, 0}, // days without minutes
		{[]absent.Absence{away(monday, monday+3, 1, 0, 0), away(monday+1, monday+2, 1, 5, 1), away(monday+2, monday+4, 1, 0, 0)}, always(), 1, 1111, 4},
		{[]absent.Absence{away(monday, monday+3, 1, 0, 0), away(monday, monday+3, 1, 0, 0)}, always(), 1, 111, 3},
		{[]absent.Absence{away(monday, monday+3, 1, 0, 0), away(monday, monday+4, 2, 0, 0)}, always(), 1, 111, 3},
		{[]absent.Absence{away(monday, monday+3, 1, 0, 0), away(monday, monday+4, 2, 0, 0)}, always(), 2, 1111, 4},
		{[]absent.Absence{away(monday+9, monday+10, 1, 0, 0), away(monday, monday+1, 1, 0, 0)}, always(), 1, 101, 2}, // those that don't rise
		{[]absent.Absence{away(monday+3, monday, 1, 0, 0)}, always(), 1, 0, 0},
		{[]absent.Absence{away(highest, lowest, 1, 0, 0)}, always(), 1, 0, 0},
		{[]absent.Absence{away(monday, monday+7, 1, 0, 0)}, from(monday+1, monday+3), 1, 110, 2},
		{[]absent.Absence{away(monday, monday+7, 1, 0, 0)}, from(monday+7, monday+9), 1, 0, 0},
		{[]absent.Absence{away(monday, monday+7, 1, 0, 0)}, from(monday-9, monday), 1, 0, 0},
		{[]absent.Absence{away(monday, monday+7, 1, 0, 0)}, from(monday+3, monday+3), 1, 0, 0},
		{[]absent.Absence{away(monday, monday+7, 1, 0, 0)}, from(monday+3, monday), 1, 0, 0},
		{[]absent.Absence{away(monday, monday+7, 1, 0, 0)}, from(highest, lowest), 1, 0, 0},
		{[]absent.Absence{away(lowest, firstDay+2, 1, 0, 0), away(lastDay, highest, 1, 0, 0)}, always(), 1, 21, 3},
		{[]absent.Absence{away(lowest, firstDay, 1, 0, 0), away(lastDay+1, highest, 1, 0, 0)}, always(), 1, 0, 0},
		{[]absent.Absence{away(lowest, highest, 1, 0, 0)}, always(), 1, 15653*2551 + 11 - 10, 15653*5 + 2 - 1},
	} {
		check(t, fmt.Sprint("Minutes of ", i), absent.Minutes(x.l, p, x.s, x.kind), x.minutes)
		check(t, fmt.Sprint("Days of ", i), absent.Days(x.l, p, x.s, x.kind), x.days)
	}
}

// TestP18_2Wrong: a pattern that isn't right has no minutes.
func TestP18_2Wrong(t *testing.T) {
	l := []absent.Absence{away(monday, monday+7, 1, 0, 0)}
	for what, p := range map[string]week.Pattern{
		"too many minutes": {Week: week.Week{480, 480, 480, 480, 480, 480, 1441}},
		"minutes below 0":  {Week: week.Week{480, 480, 480, -1, 480, 480, 480}},
		"too many days":    {Week: week.Week{480}, Free: make([]api.Day, api.MaxFacts+1)},
		"too early":        {Week: week.Week{480}, Free: []api.Day{firstDay - 1, 5}},
		"a day twice":      {Week: week.Week{480}, Free: []api.Day{5, 7, 7}},
	} {
		check(t, "Minutes of "+what, absent.Minutes(l, p, always(), 1), 0)
		check(t, "Days of "+what, absent.Days(l, p, always(), 1), 0)
	}
}

func TestP18_2ByWords(t *testing.T) {
	r := rand.New(rand.NewSource(182))
	for range 2000 {
		first := []api.Day{firstDay - 5, lastDay - 15, -10, monday}[r.Intn(4)]
		var l []absent.Absence
		for range r.Intn(8) {
			a := first + api.Day(r.Intn(20))
			l = append(l, away(a, a+api.Day(r.Intn(10)-2), r.Intn(3)-1, 0, 0))
		}
		p, s := somePattern(r, first), from(first+api.Day(r.Intn(20)-3), first+api.Day(r.Intn(30)))
		for kind := -2; kind < 3; kind++ {
			minutes, days := minutesByWords(l, p, s, kind)
			check(t, fmt.Sprint("Minutes of ", l, p, s, kind), absent.Minutes(l, p, s, kind), minutes)
			check(t, fmt.Sprint("Days of ", l, p, s, kind), absent.Days(l, p, s, kind), days)
		}
	}
}

// TestP18_3Follows: no day is in two absences; spans sum; all kinds together are at most the pattern's minutes.
func TestP18_3Follows(t *testing.T) {
	r := rand.New(rand.NewSource(183))
	for range 1000 {
		v := told(t, someFacts(r, monday)...)
		s := from(monday, monday+40)
		cut := monday + api.Day(r.Intn(41))
		p := somePattern(r, monday)
		l, _ := absent.Of(v, 1, s)
		left, _ := absent.Of(v, 1, from(monday, cut))
		for i := 1; i < len(l); i++ {
			check(t, fmt.Sprint("apart, ", l), l[i].Span.From >= l[i-1].Span.To, true)
		}
		sum := 0
		for kind := absent.Sick; kind <= absent.Parental; kind++ {
			all := absent.Minutes(l, p, s, kind)
			check(t, fmt.Sprint("minutes of both spans, ", l), absent.Minutes(l, p, from(monday, cut), kind)+absent.Minutes(l, p, from(cut, monday+40), kind), all)
			check(t, fmt.Sprint("days of both spans, ", l), absent.Days(l, p, from(monday, cut), kind)+absent.Days(l, p, from(cut, monday+40), kind), absent.Days(l, p, s, kind))
			check(t, fmt.Sprint("minutes of the left absences, ", l), absent.Minutes(left, p, s, kind), absent.Minutes(l, p, from(monday, cut), kind))
			sum += all
		}
		check(t, fmt.Sprint("at most the pattern's, ", l), sum <= p.Minutes(s), true)
	}
}

// TestMemory: what is handed in stays as it was, spare room included; answers are new memory.
func TestMemory(t *testing.T) {
	l := []absent.Absence{away(20, 30, 1, 2, 3), away(10, 12, 1, 2, 3), away(5, 99, 0, 2, 3)}
	kept := slices.Clone(l)
	free := []api.Day{7, 8, 9}
	_ = absent.Minutes(l[:2], week.Pattern{Free: free[:2]}, always(), 1)
	_ = absent.Days(l[:2], week.Pattern{Week: week.Week{1}, Free: free[:2]}, always(), 1)
	checkList(t, "absences", l, kept)
	checkList(t, "free days", free, []api.Day{7, 8, 9})
	v := told(t, tells(1, 10, 20, "sick", 7))
	got, _ := absent.Of(v, 1, from(0, 30))
	got[0].Kind = 9
	checkOf(t, "absences, again", v, 1, from(0, 30), away(10, 20, absent.Sick, 7, 1))
}
