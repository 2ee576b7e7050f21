package book_test

import (
	"fmt"
	"math"
	"math/rand"
	"slices"
	"sort"
	"strings"
	"testing"

	"wagebook/api"
	"wagebook/book"
	"wagebook/fact"
	"wagebook/store"
)

const (
	lowest  = api.Day(math.MinInt)
	highest = api.Day(math.MaxInt)
)

// check fails the test, if something is another thing than was wanted.
func check[T comparable](t *testing.T, what string, got, wanted T) {
	t.Helper()
	if got != wanted {
		t.Errorf("%s: %v, wanted %v", what, got, wanted)
	}
}

// checkList fails the test, if a list's elements are others than were wanted; without elements it may be nil or not.
func checkList[T comparable](t *testing.T, what string, got, wanted []T) {
	t.Helper()
	if !slices.Equal(got, wanted) {
		t.Errorf("%s: %.500q, wanted %.500q", what, fmt.Sprint(got), fmt.Sprint(wanted))
	}
}

// from is the span of the days from a on, up to b.
func from(a, b api.Day) api.Span { return api.Span{From: a, To: b} }

// rule is a known rule.
func rule(n int, name string, a, b api.Day, num int64, text string) store.Known {
	return store.Known{N: n, Fact: fact.Fact{Kind: fact.Rule, From: a, To: b, Code: name, Num: num, Text: text}}
}

// open is a known rule without end, whose Num is its number.
func open(n int, name string) store.Known {
	return rule(n, name, 0, 0, int64(n), "")
}

// holder is the place in the list of the rule of a name that is in force on a day, by the chapter's words; -1, if none is.
func holder(l []store.Known, name string, d api.Day) int {
	best := -1
	for i, k := range l {
		f := k.Fact
		if f.Kind != fact.Rule || f.Code != name || f.From > d || f.To != 0 && f.To <= d {
			continue
		}
		if best < 0 || k.N > l[best].N {
			best = i
		}
	}
	return best
}

// namesAt is the names under which a rule is in force, by the words.
func namesAt(l []store.Known, d api.Day) []string {
	found := map[string]bool{}
	for _, k := range l {
		if holder(l, k.Fact.Code, d) >= 0 {
			found[k.Fact.Code] = true
		}
	}
	return sorted(found)
}

// underAt is what stands behind a prefix, by the words, byte by byte.
func underAt(l []store.Known, prefix string, d api.Day) []string {
	found := map[string]bool{}
	for _, name := range namesAt(l, d) {
		if len(name) < len(prefix) || name[:len(prefix)] != prefix {
			continue
		}
		i := len(prefix)
		for i < len(name) && name[i] != '.' {
			i++
		}
		if i > len(prefix) {
			found[name[len(prefix):i]] = true
		}
	}
	return sorted(found)
}

// sorted is a set's texts, rising.
func sorted(set map[string]bool) []string {
	var l []string
	for s := range set {
		l = append(l, s)
	}
	sort.Strings(l)
	return l
}

// changesOf is the days of change, found day by day.
func changesOf(l []store.Known, name string, s api.Span) []api.Day {
	var days []api.Day
	for d := s.From; d < s.To; d++ {
		if d > s.From && holder(l, name, d) != holder(l, name, d-1) {
			days = append(days, d)
		}
	}
	return days
}

// pool is names that are alike in part, wrong ones among them.
func pool() []string {
	return []string{"a", "a.b", "a.b.c", "a-b", "a-b.c", "a.", "a..b", ".a", ".", "", "ab", "b.a", "A B", "\xff.x"}
}

// someRules are rules of a few days near 0, and facts of other kinds of the same codes; with numbers from least to most.
func someRules(r *rand.Rand, least, most int) []store.Known {
	names := pool()
	l := make([]store.Known, r.Intn(12))
	for i := range l {
		l[i] = rule(least+r.Intn(most-least+1), names[r.Intn(len(names))], api.Day(r.Intn(24)-12), api.Day(r.Intn(24)-12), int64(r.Intn(3)), []string{"", "t"}[r.Intn(2)])
		if r.Intn(3) == 0 {
			l[i].Fact.To = 0
		}
		if r.Intn(6) == 0 {
			l[i].Fact.Kind = r.Intn(20)
		}
	}
	return l
}

// checkDay holds what a book tells of a day against the words.
func checkDay(t *testing.T, b book.Book, l []store.Known, d api.Day) {
	t.Helper()
	what := fmt.Sprint(" on ", d, " of ", l)
	for _, name := range pool() {
		var wanted fact.Fact
		i := holder(l, name, d)
		if i >= 0 {
			wanted = l[i].Fact
		}
		num, isNum := b.Num(name, d)
		check(t, "Num of "+name+what, num, wanted.Num)
		check(t, "is a Num of "+name+what, isNum, i >= 0)
		text, isText := b.Text(name, d)
		check(t, "Text of "+name+what, text, wanted.Text)
		check(t, "is a Text of "+name+what, isText, i >= 0)
	}
	checkList(t, "Names"+what, b.Names(d), namesAt(l, d))
	for _, prefix := range []string{"", "a", "a.", "a.b", "a.b.", "a-", ".", "b", "x", "A", "a.b.c", "a.b.c.d"} {
		checkList(t, "Under "+prefix+what, b.Under(prefix, d), underAt(l, prefix, d))
	}
}

// checkBook holds a book against the words, on days near 0.
func checkBook(t *testing.T, b book.Book, l []store.Known, s api.Span) {
	t.Helper()
	for d := api.Day(-14); d < 14; d += 3 {
		checkDay(t, b, l, d)
	}
	for _, name := range pool() {
		checkList(t, fmt.Sprint("Changes of ", name, " over ", s, " of ", l), b.Changes(name, s), changesOf(l, name, s))
	}
}

// checkNum holds a Num, and whether there is one, against what was wanted.
func checkNum(t *testing.T, b book.Book, name string, d api.Day, wanted int64, some bool) {
	t.Helper()
	num, ok := b.Num(name, d)
	check(t, fmt.Sprint("Num of ", name, " on ", d), num, wanted)
	check(t, fmt.Sprint("is a Num of ", name, " on ", d), ok, some)
}

func TestP11_1NumAndText(t *testing.T) {
	b := book.Of(rule(1, "tax.free", 0, 0, 100, "a"), rule(3, "tax.free", 10, 20, -200, ""), rule(2, "tax.free", 5, 15, 300, "c"), rule(9, "tax", -5, 5, 0, "zero"))
	for d, wanted := range map[api.Day]fact.Fact{0: {Num: 100, Text: "a"}, 4: {Num: 100, Text: "a"}, 5: {Num: 300, Text: "c"}, 9: {Num: 300, Text: "c"}, 10: {Num: -200}, 19: {Num: -200}, 20: {Num: 100, Text: "a"}, highest: {Num: 100, Text: "a"}} {
		checkNum(t, b, "tax.free", d, wanted.Num, true)
		text, ok := b.Text("tax.free", d)
		check(t, fmt.Sprint("Text on ", d), text, wanted.Text)
		check(t, fmt.Sprint("is a Text on ", d), ok, true)
	}
	checkNum(t, b, "tax", -5, 0, true) // a 0 that is told is one
	checkNum(t, b, "tax", 4, 0, true)
	text, ok := b.Text("tax", 4)
	check(t, "Text of tax", text, "zero")
	check(t, "is a Text of tax", ok, true)
}

func TestP11_1None(t *testing.T) {
	b := book.Of(rule(1, "tax.free", 0, 10, 100, "a"), rule(2, "tax", 5, 0, 7, "b"), rule(3, "empty", 5, 5, 7, "b"), rule(4, "turned", 5, 3, 7, "b"))
	for _, x := range []struct {
		name string
		d    api.Day
	}{{"tax.free", -1}, {"tax.free", 10}, {"tax.free", highest}, {"tax", 4}, {"tax", lowest}, {"tax.", 6}, {"Tax", 6}, {"ta", 6}, {"", 6}, {"empty", 5}, {"turned", 4}, {"turned", 5}} {
		checkNum(t, b, x.name, x.d, 0, false)
		text, ok := b.Text(x.name, x.d)
		check(t, "Text of "+x.name, text, "")
		check(t, "is a Text of "+x.name, ok, false)
	}
}

// TestP11_1RulesAlone: facts of other kinds count for nothing, whatever else they are.
func TestP11_1RulesAlone(t *testing.T) {
	for kind := -1; kind < 21; kind++ {
		k := rule(9, "x", 0, 0, 5, "other")
		k.Fact.Kind = kind
		b := book.Of(rule(1, "x", 0, 0, 7, "rule"), k, store.Known{N: 8, Fact: fact.Fact{Kind: kind, From: -9, Code: "y"}})
		if kind == fact.Rule {
			checkNum(t, b, "x", 3, 5, true)
			checkNum(t, b, "y", 3, 0, true)
			continue
		}
		checkNum(t, b, "x", 3, 7, true)
		checkNum(t, b, "x", -3, 0, false)
		checkNum(t, b, "y", 3, 0, false)
		checkList(t, fmt.Sprint("Names beside kind ", kind), b.Names(3), []string{"x"})
		checkList(t, fmt.Sprint("Changes beside kind ", kind), b.Changes("x", from(-9, 9)), []api.Day{0})
	}
}

// TestP11_1Number: of rules that cover a day that with the greatest number holds; of several with that number the first one in the list.
func TestP11_1Number(t *testing.T) {
	for i, x := range []struct {
		l      []store.Known
		wanted int64
	}{
		{[]store.Known{rule(1, "x", 0, 0, 1, ""), rule(2, "x", 0, 0, 2, "")}, 2},
		{[]store.Known{rule(2, "x", 0, 0, 2, ""), rule(1, "x", 0, 0, 1, "")}, 2},
		{[]store.Known{rule(2, "x", 0, 0, 1, ""), rule(2, "x", 0, 0, 2, "")}, 1},
		{[]store.Known{rule(2, "x", 0, 0, 2, ""), rule(3, "y", 0, 0, 9, ""), rule(2, "x", 0, 0, 1, "")}, 2},
		{[]store.Known{rule(2, "x", 6, 0, 2, ""), rule(2, "x", 0, 0, 1, ""), rule(1, "x", 0, 0, 9, "")}, 1},
		{[]store.Known{rule(-2, "x", 0, 0, 2, ""), rule(math.MinInt, "x", 0, 0, 9, "")}, 2},
		{[]store.Known{rule(0, "x", 0, 0, 2, ""), rule(math.MaxInt, "x", -9, 0, 9, "")}, 9},
	} {
		num, ok := book.Of(x.l...).Num("x", 5)
		check(t, fmt.Sprint("Num of ", i), num, x.wanted)
		check(t, fmt.Sprint("is a Num of ", i), ok, true)
	}
}

func TestP11_1Zero(t *testing.T) {
	for _, b := range []book.Book{{}, book.Of(), book.Of(store.Known{}, store.Known{N: 1, Fact: fact.Fact{Kind: fact.Bonus, Code: "x"}})} {
		for _, d := range []api.Day{lowest, -1, 0, 1, highest} {
			for _, name := range []string{"", "x"} {
				checkNum(t, b, name, d, 0, false)
				text, ok := b.Text(name, d)
				check(t, "Text", text, "")
				check(t, "is a Text", ok, false)
				check(t, "Under", len(b.Under(name, d)), 0)
				check(t, "Changes", len(b.Changes(name, from(lowest, highest))), 0)
			}
			check(t, "Names", len(b.Names(d)), 0)
		}
	}
}

func TestP11_2Names(t *testing.T) {
	b := book.Of(rule(1, "b", 0, 0, 1, ""), rule(2, "a.z", 5, 9, 1, ""), rule(3, "a-z", 5, 0, 1, ""), rule(4, "b", 2, 8, 1, ""), rule(5, "a", 7, 7, 1, ""), rule(6, "a_", 8, 0, 1, ""), rule(7, "9", 8, 0, 1, ""))
	for d, wanted := range map[api.Day][]string{lowest: nil, -1: nil, 0: {"b"}, 4: {"b"}, 5: {"a-z", "a.z", "b"}, 7: {"a-z", "a.z", "b"}, 8: {"9", "a-z", "a.z", "a_", "b"}, 9: {"9", "a-z", "a_", "b"}, highest: {"9", "a-z", "a_", "b"}} {
		checkList(t, fmt.Sprint("Names on ", d), b.Names(d), wanted)
	}
	odd := book.Of(open(1, "\xff"), open(2, ""), open(3, "\u00e4"), open(4, "A"), open(5, "a"), open(6, "\x00"))
	checkList(t, "Names by their bytes", odd.Names(0), []string{"", "\x00", "A", "a", "\u00e4", "\xff"})
}

func TestP11_2Under(t *testing.T) {
	b := book.Of(open(1, "social.age.rate"), open(2, "social.age.top"), open(3, "social.sick.rate"), open(4, "tax.free"), rule(5, "social.late", 9, 0, 1, ""))
	for prefix, wanted := range map[string][]string{
		"social.": {"age", "sick"}, "social.age.": {"rate", "top"}, "tax.free": nil, "tax.": {"free"}, "": {"social", "tax"}, "social": nil, "soc": {"ial"},
		"social.a": {"ge"}, "social.age": nil, "social.age.rate": nil, "social.age.rate.": nil, "tax.free.more": nil, "ocial.": nil, "age": nil, "Social.": nil,
	} {
		checkList(t, "Under "+prefix, b.Under(prefix, 5), wanted)
	}
	checkList(t, "Under social. later", b.Under("social.", 9), []string{"age", "late", "sick"})
	checkList(t, "Under social. ahead", b.Under("social.", -1), nil)
}

// TestP11_2UnderSorted: what rises as names needn't rise behind the prefix, up to the point; and stands there once all the same.
func TestP11_2UnderSorted(t *testing.T) {
	b := book.Of(open(1, "x.a"), open(2, "x.a-b"), open(3, "x.a-b.c"), open(4, "x.a.b"), open(5, "x.a.c"), open(6, "x.a+"), open(7, "x.aa"), open(8, "x."), open(9, "x..b"), open(10, "x"))
	checkList(t, "Under x.", b.Under("x.", 0), []string{"a", "a+", "a-b", "aa"})
	checkList(t, "Under nothing", b.Under("", 0), []string{"x"})
	checkList(t, "Under x..", b.Under("x..", 0), []string{"b"})
	checkList(t, "Under x.a", b.Under("x.a", 0), []string{"+", "-b", "a"})
	checkList(t, "Under x.a-b", b.Under("x.a-b", 0), nil)
}

func TestP11_3Changes(t *testing.T) {
	b := book.Of(rule(3, "x", 30, 0, 7, ""), rule(1, "x", 0, 20, 100, ""), rule(2, "x", 10, 15, 100, ""), rule(4, "y", 12, 13, 5, ""), rule(5, "x.y", 1, 2, 5, ""))
	for s, wanted := range map[api.Span][]api.Day{
		from(-5, 40): {0, 10, 15, 20, 30}, from(0, 30): {10, 15, 20}, from(-1, 31): {0, 10, 15, 20, 30}, from(9, 10): nil, from(9, 11): {10}, from(10, 11): nil,
		from(10, 15): nil, from(10, 16): {15}, from(16, 10): nil, from(20, 30): nil, from(19, 21): {20}, from(25, 1000): {30}, from(31, 1000): nil, {}: nil,
		from(lowest, highest): {0, 10, 15, 20, 30}, from(highest, lowest): nil, from(lowest, 0): nil, from(lowest, 1): {0},
	} {
		checkList(t, fmt.Sprint("Changes ", s), b.Changes("x", s), wanted)
	}
	checkList(t, "Changes of y", b.Changes("y", from(0, 40)), []api.Day{12, 13})
	checkList(t, "Changes of x.y", b.Changes("x.y", from(0, 40)), []api.Day{1, 2})
	for _, name := range []string{"", "z", "x.", "X"} {
		check(t, "Changes of "+name, len(b.Changes(name, from(lowest, highest))), 0)
	}
}

// TestP11_3AlikeValues: another rule is in force, though it says the same.
func TestP11_3AlikeValues(t *testing.T) {
	b := book.Of(rule(1, "x", 0, 10, 5, "a"), rule(2, "x", 10, 20, 5, "a"), rule(2, "x", 20, 30, 5, "a"), rule(1, "x", 0, 20, 5, "a"))
	checkList(t, "Changes", b.Changes("x", from(-9, 40)), []api.Day{0, 10, 20, 30})
}

func TestP11ByWords(t *testing.T) {
	r := rand.New(rand.NewSource(11))
	for range 1500 {
		l := someRules(r, -2, 5)
		checkBook(t, book.Of(l...), l, from(api.Day(r.Intn(30)-15), api.Day(r.Intn(30)-15)))
	}
}

// TestP11_4AnyOrder: facts in whatever order make one book, if no two have one number.
func TestP11_4AnyOrder(t *testing.T) {
	r := rand.New(rand.NewSource(114))
	for range 500 {
		l := someRules(r, 1, 1)
		for i := range l {
			l[i].N = i + 1
		}
		turned := slices.Clone(l)
		r.Shuffle(len(turned), func(i, j int) { turned[i], turned[j] = turned[j], turned[i] })
		checkBook(t, book.Of(turned...), l, from(-14, 14))
	}
}

// TestP11_4Greater: a rule with a greater number than all changes just its own name, on the days that it covers.
func TestP11_4Greater(t *testing.T) {
	r := rand.New(rand.NewSource(1140))
	for range 1000 {
		l := someRules(r, 1, 9)
		more := rule(10, pool()[r.Intn(3)], api.Day(r.Intn(20)-10), api.Day(r.Intn(20)-10), 77, "more")
		before, behind := book.Of(l...), book.Of(append(slices.Clone(l), more)...)
		for d := api.Day(-14); d < 14; d += 2 {
			for _, name := range pool() {
				num, some := before.Num(name, d)
				text, _ := before.Text(name, d)
				if name == more.Fact.Code && more.Fact.From <= d && (more.Fact.To == 0 || d < more.Fact.To) {
					num, text, some = 77, "more", true
				}
				got, _ := behind.Text(name, d)
				checkNum(t, behind, name, d, num, some)
				check(t, "Text of "+name, got, text)
			}
		}
	}
}

// TestP11OfAStore takes books of what views tell.
func TestP11OfAStore(t *testing.T) {
	var s store.Store
	for _, told := range []string{"rule 1 0 2024-01-01 - social.age.rate 93000", "rule 2 0 2024-01-01 - tax.a 0 0.00:14%", "rule 3 0 2024-07-01 - social.age.rate 99000", "cancel 4 0 1970-01-01 - - 3", "element 5 0 2024-01-01 - tax.a 0 1", "rule 6 0 2024-03-01 2024-04-01 tax.b -5"} {
		f, e := fact.Parse(told)
		check(t, "error of "+told, e, api.OK)
		s, e = s.Add(f)
		check(t, "error of Add of "+told, e, api.OK)
	}
	const january, march, august = 19723, 19783, 19936
	early, late := book.Of(s.At(3).Facts(0, fact.Rule)...), book.Of(s.At(6).Facts(0, fact.Rule)...)
	checkNum(t, early, "social.age.rate", august, 99000, true)
	checkNum(t, late, "social.age.rate", august, 93000, true)
	checkNum(t, late, "tax.b", march, -5, true)
	checkList(t, "Names", late.Names(january), []string{"social.age.rate", "tax.a"})
	checkList(t, "Under", late.Under("tax.", march), []string{"a", "b"})
	text, ok := late.Text("tax.a", january)
	check(t, "Text", text, "0.00:14%")
	check(t, "is a Text", ok, true)
}

// TestManyRules is a book of very many rules, of one name each, and of one name in all.
func TestManyRules(t *testing.T) {
	const n = 4096
	var apart, together []store.Known
	for i := range n {
		apart = append(apart, rule(i+1, fmt.Sprintf("r.%04d", n-1-i), 0, 0, int64(i), ""))
		together = append(together, rule(i+1, "x", api.Day(i), api.Day(2*n-i), int64(i), ""))
	}
	b := book.Of(apart...)
	names := b.Names(5)
	check(t, "how many names", len(names), n)
	check(t, "are they rising", slices.IsSorted(names), true)
	check(t, "how many are under r.", len(b.Under("r.", 5)), n)
	checkNum(t, b, "r.0000", 5, n-1, true)
	b = book.Of(together...)
	checkNum(t, b, "x", 7, 7, true)
	checkList(t, "Names", b.Names(7), []string{"x"})
	check(t, "how many changes", len(b.Changes("x", from(-1, 3*n))), 2*n)
}

// TestMemory: what is handed in stays as it is, its spare room too; what is done to it, or to an answer, changes no book.
func TestMemory(t *testing.T) {
	room := []store.Known{rule(1, "a.b", 0, 20, 1, "a"), rule(3, "a.c", 5, 0, 3, "c"), rule(2, "a.b", 3, 9, 2, "b"), rule(9, "z", -9, 0, 9, "z")}
	before := slices.Clone(room)
	b := book.Of(room[:3]...)
	checkList(t, "what was handed in", room, before)
	clear(room)
	for range 3 {
		checkBook(t, b, before[:3], from(-10, 10))
		for _, l := range [][]string{b.Names(6), b.Under("a.", 6), b.Under("", 6)} {
			clear(append(l[:1], "q"))
			clear(l)
		}
		clear(append(b.Changes("a.b", from(-10, 30))[:1], 9))
	}
	other := book.Of(before[3])
	checkNum(t, b, "z", 0, 0, false)
	checkNum(t, other, "a.b", 0, 0, false)
}

// TestP1NoPanic hands each call what is farthest out.
func TestP1NoPanic(t *testing.T) {
	edges := []api.Day{lowest, lowest + 1, -1, 0, 1, highest - 1, highest}
	long := strings.Repeat("a.", 5000)
	for _, a := range edges {
		for _, z := range edges {
			b := book.Of(rule(1, "x", a, z, math.MinInt64, ""), rule(1, "x", z, a, math.MaxInt64, ""), rule(math.MinInt, long, a, 0, 1, long))
			for _, d := range edges {
				b.Num("x", d)
				b.Text(long, d)
				b.Names(d)
				b.Under(long[:5000], d)
				b.Under("", d)
				b.Changes("x", from(d, z))
				b.Changes("x", from(a, d))
			}
		}
	}
}
