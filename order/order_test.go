package order_test

import (
	"fmt"
	"math/rand"
	"slices"
	"sort"
	"strings"
	"testing"

	"wagebook/api"
	"wagebook/order"
)

// check fails the test, if something is another thing than was wanted.
func check[T comparable](t *testing.T, what string, got, wanted T) {
	t.Helper()
	if got != wanted {
		t.Errorf("%s: %v, wanted %v", what, got, wanted)
	}
}

// checkNames fails the test, if names are others than were wanted.
func checkNames(t *testing.T, what string, got, wanted []string) {
	t.Helper()
	if !slices.Equal(got, wanted) {
		t.Errorf("%s: %q, wanted %q", what, got, wanted)
	}
}

// checkSort fails the test, if edges are sorted otherwise than was wanted.
func checkSort(t *testing.T, l []order.Edge, wanted string, e api.Errno) {
	t.Helper()
	got, wrong := order.Sort(l...)
	check(t, fmt.Sprintf("error of %.300q", fmt.Sprint(l)), wrong, e)
	checkNames(t, fmt.Sprintf("order of %.300q", fmt.Sprint(l)), got, strings.Fields(wanted))
}

// edges are those of a text: "a b c, b c" is a, which needs b and c, and b, which needs c.
func edges(s string) []order.Edge {
	var l []order.Edge
	for _, x := range strings.Split(s, ",") {
		if names := strings.Fields(x); len(names) > 0 {
			l = append(l, order.Edge{Name: names[0], Needs: names[1:]})
		}
	}
	return l
}

// pay is the chapter's example.
func pay() []order.Edge { return edges("net gross tax, tax gross free, gross base") }

// needs tells whether an edge's name needs another one's straight, by the chapter's words.
func needs(l []order.Edge, name, need string) bool {
	for _, x := range l {
		if x.Name == name && slices.Contains(x.Needs, need) {
			return slices.Contains(namesOf(l), need)
		}
	}
	return false
}

// namesOf is the edges' names.
func namesOf(l []order.Edge) []string {
	var names []string
	for _, x := range l {
		names = append(names, x.Name)
	}
	return names
}

// isRight tells whether an order is right, by the words.
func isRight(names []string, l []order.Edge) bool {
	a, b := slices.Clone(names), namesOf(l)
	sort.Strings(a)
	sort.Strings(b)
	if !slices.Equal(a, b) {
		return false
	}
	for i, name := range names {
		for _, other := range names[i:] {
			if needs(l, name, other) {
				return false
			}
		}
	}
	return true
}

// lists hands on each list of unlike names, of each length.
func lists(names []string, hand func(list []string)) {
	var grow func(list []string)
	grow = func(list []string) {
		hand(list)
		for _, name := range names {
			if !slices.Contains(list, name) {
				grow(append(slices.Clone(list), name))
			}
		}
	}
	grow(nil)
}

// orderOf is the least of all right orders, name by name; false, if there is none.
func orderOf(l []order.Edge) ([]string, bool) {
	var least []string
	found := false
	lists(namesOf(l), func(list []string) {
		if isRight(list, l) && (!found || slices.Compare(list, least) < 0) {
			least, found = list, true
		}
	})
	return least, found
}

// ringOf is the least ring, by the words: of all that there are.
func ringOf(l []order.Edge) []string {
	var least []string
	lists(namesOf(l), func(list []string) {
		if len(list) == 0 || list[0] != slices.Min(list) {
			return
		}
		for i, name := range list {
			if !needs(l, name, list[(i+1)%len(list)]) {
				return
			}
		}
		if least == nil || len(list) < len(least) || len(list) == len(least) && slices.Compare(list, least) < 0 {
			least = list
		}
	})
	return least
}

// comeTo tells which names are come to from which, straight or by others: steps are added till there is none to be added.
func comeTo(l []order.Edge) map[[2]string]bool {
	pairs := map[[2]string]bool{}
	for _, x := range l {
		for _, need := range x.Needs {
			pairs[[2]string{x.Name, need}] = true
		}
	}
	for more := true; more; {
		more = false
		for _, a := range pool() {
			for _, b := range pool() {
				for _, c := range pool() {
					if pairs[[2]string{a, b}] && pairs[[2]string{b, c}] && !pairs[[2]string{a, c}] {
						pairs[[2]string{a, c}] = true
						more = true
					}
				}
			}
		}
	}
	return pairs
}

// pool is names, of which some are others' beginnings, and some aren't of letters; rising.
func pool() []string {
	return []string{"\x00", " ", "A", "a", "a\x00", "aa", "b", "z", "\u00e4", "\xff"}
}

// someEdges are right ones, at most so many, that need so many names at most.
func someEdges(r *rand.Rand, n, most int) []order.Edge {
	names := pool()
	r.Shuffle(len(names), func(i, j int) { names[i], names[j] = names[j], names[i] })
	l := make([]order.Edge, r.Intn(n+1))
	for i := range l {
		l[i].Name = names[i]
		for range r.Intn(most + 1) {
			l[i].Needs = append(l[i].Needs, names[r.Intn(len(l)+2)]) // two inputs are among them
		}
	}
	return l
}

// someRings are edges that stand around, each of which needs some of the next two: none is short, and several are as short as others.
func someRings(r *rand.Rand, n int) []order.Edge {
	names := pool()
	r.Shuffle(len(names), func(i, j int) { names[i], names[j] = names[j], names[i] })
	l := make([]order.Edge, n)
	for i := range l {
		l[i].Name = names[i]
		for step := 1; step <= 2; step++ {
			if r.Intn(5) > 0 {
				l[i].Needs = append(l[i].Needs, names[(i+step)%n])
			}
		}
	}
	return l
}

// someStairs are edges without a ring: each needs names that stand ahead of its own in some list.
func someStairs(r *rand.Rand, n, most int) []order.Edge {
	names := pool()
	r.Shuffle(len(names), func(i, j int) { names[i], names[j] = names[j], names[i] })
	l := make([]order.Edge, r.Intn(n+1))
	for i := range l {
		l[i].Name = names[i+1]
		for range r.Intn(most + 1) {
			l[i].Needs = append(l[i].Needs, names[r.Intn(i+1)])
		}
	}
	r.Shuffle(len(l), func(i, j int) { l[i], l[j] = l[j], l[i] })
	return l
}

func TestP14_1Sort(t *testing.T) {
	checkSort(t, pay(), "gross tax net", api.OK)
	checkSort(t, nil, "", api.OK)
	checkSort(t, edges("a"), "a", api.OK)
	checkSort(t, edges("a x y z"), "a", api.OK)
	checkSort(t, edges("c, b, a"), "a b c", api.OK)
	checkSort(t, edges("a c, b, c"), "b c a", api.OK) // a may come only behind c
	checkSort(t, edges("a z, b a, z, c"), "c z a b", api.OK)
	checkSort(t, edges("a c, c, b c"), "c a b", api.OK)
	checkSort(t, edges("a b b b c c, b c c, c x x"), "c b a", api.OK) // each need counts once
	checkSort(t, edges("d b c, b a, c a, a"), "a b c d", api.OK)
	checkSort(t, edges("d c b, c a, b a, a"), "a b c d", api.OK)
	checkSort(t, edges("10, 9, 1, B, b, aa, a"), "1 10 9 B a aa b", api.OK)
}

// TestP14_1Bytes: a name may have any bytes, and is compared by them.
func TestP14_1Bytes(t *testing.T) {
	l := []order.Edge{{Name: "\xff"}, {Name: "\u00e4"}, {Name: "a b", Needs: []string{"\xff", "\n"}}, {Name: "\x00"}, {Name: " "}, {Name: "a"}, {Name: "a\x00"}}
	got, e := order.Sort(l...)
	check(t, "error", e, api.OK)
	checkNames(t, "order", got, []string{"\x00", " ", "a", "a\x00", "\u00e4", "\xff", "a b"})
	checkNames(t, "Below", order.Below("a b", l...), []string{"\n", "\xff"})
	checkNames(t, "Above", order.Above("\n", l...), []string{"a b"})
}

// TestP14_1Errors: of several errors the one that is named first is told, edge by edge; beside it there is no order, nor anything else.
func TestP14_1Errors(t *testing.T) {
	long, longest := strings.Repeat("x", 33), strings.Repeat("x", 32)
	many, most := strings.Fields(strings.Repeat("b ", 65)), strings.Fields(strings.Repeat("b ", 64))
	for i, x := range []struct {
		wanted api.Errno
		l      []order.Edge
	}{
		{api.ErrMany, make([]order.Edge, 65)}, {api.ErrMany, make([]order.Edge, 5000)}, {api.ErrName, make([]order.Edge, 64)},
		{api.ErrName, []order.Edge{{}}}, {api.ErrName, []order.Edge{{Name: long}}}, {api.ErrName, []order.Edge{{Name: "a"}, {Name: long}}}, {api.ErrName, []order.Edge{{Name: "\u00e4" + longest[1:]}}},
		{api.ErrName, []order.Edge{{Name: "", Needs: many}}}, {api.ErrMany, []order.Edge{{Name: "a", Needs: many}}}, {api.ErrMany, []order.Edge{{Name: "a", Needs: make([]string, 65)}}}, {api.ErrName, []order.Edge{{Name: "a", Needs: make([]string, 64)}}},
		{api.ErrName, []order.Edge{{Name: "a", Needs: []string{""}}}}, {api.ErrName, []order.Edge{{Name: "a", Needs: []string{"b", long}}}}, {api.ErrName, []order.Edge{{Name: "a"}, {Name: "a", Needs: []string{"b", ""}}}}, {api.ErrMany, []order.Edge{{Name: "a"}, {Name: "a", Needs: many}}},
		{api.ErrTwice, edges("a, a")}, {api.ErrTwice, edges("a a, a a")}, {api.ErrTwice, edges("a b, b a, c, a")}, {api.ErrTwice, append(edges("a, a"), order.Edge{})}, {api.ErrName, append([]order.Edge{{}}, edges("a, a")...)}, {api.ErrTwice, append(edges("a, a"), order.Edge{Name: "b", Needs: many})},
		{api.ErrRing, edges("a a")}, {api.ErrRing, edges("a b, b a")}, {api.ErrRing, edges("a b, b c, c d, d b")}, {api.ErrRing, edges("a, b, c c")}, {api.ErrRing, edges("a b, b x, x x")}, {api.ErrName, append(edges("a a"), order.Edge{Name: long})},
		{api.OK, []order.Edge{{Name: longest, Needs: []string{longest[1:] + "y"}}}}, {api.OK, []order.Edge{{Name: "a", Needs: most}}}, {api.OK, edges("a b, b x")}, {api.OK, edges("a b")},
	} {
		got, e := order.Sort(x.l...)
		check(t, fmt.Sprint("error of ", i), e, x.wanted)
		check(t, fmt.Sprint("is an order of ", i), len(got) > 0, x.wanted == api.OK)
		if x.wanted == api.OK || x.wanted == api.ErrRing {
			continue
		}
		check(t, fmt.Sprint("how long is the ring of ", i), len(order.Ring(x.l...)), 0)
		check(t, fmt.Sprint("Below of ", i), len(order.Below("a", x.l...)), 0)
		check(t, fmt.Sprint("Above of ", i), len(order.Above("b", x.l...)), 0)
		check(t, fmt.Sprint("Right of ", i), order.Right(namesOf(x.l), x.l...), false)
		check(t, fmt.Sprint("Right of none of ", i), order.Right(nil, x.l...), false)
	}
}

func TestP14_2Ring(t *testing.T) {
	for s, wanted := range map[string]string{
		"": "", "a": "", "a b": "", "a b, b c, c x": "", "a b c, b d, c d, d": "", "a a": "a", "b a, a b": "a b", "a b, b c, c a": "a b c", "a c, c b, b a": "a c b", "b c, c a, a b, x y, y x": "x y",
		"c d, d c, a z, z a": "a z", "a c b, b a, c a": "a b", "m m, a b, b a": "m", "m m, a a": "a", "a b, b c d, c a, d a": "a b c", "a b, b d c, c e, d e, e a": "a b c e", "a b c, b d, c d, d a": "a b d", "a c b, b e, c d, d a, e a": "a b e",
		"a b, b c, c b": "b c", "x a, a b, b c, c a": "a b c", "a b c, b c, c b a": "a c", "b a x, a x, x b": "b x", "b a, a x, x b": "a x b", "a b, b c, c d, d b, e f, f g, g e": "b c d", "a b, b c, c a b": "b c", "1 a, a 1, A b, b A": "1 a", "aa b, b aa, a z, z a": "a z", "a d, d a c, c d": "a d",
		"a b z, b c z, c d, d a, z b": "b z", "a z, z b, b a, c d, d c in": "c d",
	} {
		checkNames(t, "ring of "+s, order.Ring(edges(s)...), strings.Fields(wanted))
	}
}

func TestP14_2Right(t *testing.T) {
	for s, wanted := range map[string]bool{
		"gross tax net": true, "tax gross net": false, "gross net tax": false, "net tax gross": false, "": false, "gross tax": false, "gross tax net net": false, "gross gross tax net": false, "gross tax tax": false, "gross tax base": false,
		"base free gross tax net": false, "base gross tax net": false, "gross tax net base": false, "gross tax Net": false, "gross tax net x": false,
	} {
		check(t, "Right of "+s, order.Right(strings.Fields(s), pay()...), wanted)
	}
	check(t, "Right of none", order.Right(nil), true)
	check(t, "Right of none, which isn't nil", order.Right([]string{}, []order.Edge{}...), true)
	check(t, "Right of one", order.Right([]string{"a"}), false)
	check(t, "Right of an empty name", order.Right([]string{""}), false)
	for s, wanted := range map[string]bool{"a": false, "b": false, "a b": false, "b a": false} {
		check(t, "Right of a ring, "+s, order.Right(strings.Fields(s), edges("a b, b a")...), wanted)
	}
	check(t, "Right of what needs itself", order.Right([]string{"a"}, edges("a a")...), false)
	check(t, "Right of what needs itself, twice", order.Right([]string{"a", "a"}, edges("a a, b")...), false)
	check(t, "Right of another order than Sort's", order.Right(strings.Fields("z c b a"), edges("a, b, c, z")...), true)
	check(t, "Right of very many", order.Right(make([]string, 100000), pay()...), false)
}

func TestP14_3Below(t *testing.T) {
	for name, wanted := range map[string]string{"net": "base free gross tax", "tax": "base free gross", "gross": "base", "base": "", "free": "", "x": "", "": "", strings.Repeat("n", 99): ""} {
		checkNames(t, "Below "+name, order.Below(name, pay()...), strings.Fields(wanted))
	}
	l := edges("a b, b a in, c a, d d, e x x x y, f")
	for name, wanted := range map[string]string{"a": "a b in", "b": "a b in", "c": "a b in", "d": "d", "e": "x y", "f": "", "in": "", "x": ""} {
		checkNames(t, "Below "+name, order.Below(name, l...), strings.Fields(wanted))
	}
	check(t, "Below of no edges", len(order.Below("a")), 0)
}

func TestP14_3Above(t *testing.T) {
	for name, wanted := range map[string]string{"net": "", "tax": "net", "gross": "net tax", "base": "gross net tax", "free": "net tax", "x": "", "": "", strings.Repeat("n", 99): ""} {
		checkNames(t, "Above "+name, order.Above(name, pay()...), strings.Fields(wanted))
	}
	l := edges("a b, b a in, c a, d d, e x x x y, f")
	for name, wanted := range map[string]string{"a": "a b c", "b": "a b c", "c": "", "d": "d", "e": "", "f": "", "in": "a b c", "x": "e", "y": "e"} {
		checkNames(t, "Above "+name, order.Above(name, l...), strings.Fields(wanted))
	}
	check(t, "Above of no edges", len(order.Above("a")), 0)
}

// checkEdges holds all that is told of right edges against the words.
func checkEdges(t *testing.T, l []order.Edge) {
	t.Helper()
	what := fmt.Sprintf(" of %.500q", fmt.Sprint(l))
	wanted, ok := orderOf(l)
	got, e := order.Sort(l...)
	check(t, "is there an order"+what, e == api.OK, ok)
	check(t, "is there a ring"+what, e == api.ErrRing, !ok)
	checkNames(t, "order"+what, got, wanted)
	ring := ringOf(l)
	checkNames(t, "ring"+what, order.Ring(l...), ring)
	check(t, "is there an order, or a ring,"+what, ok, len(ring) == 0)
	pairs := comeTo(l)
	for _, a := range pool() {
		var below, above []string
		for _, b := range pool() {
			if pairs[[2]string{a, b}] && slices.Contains(namesOf(l), a) {
				below = append(below, b)
			}
			if pairs[[2]string{b, a}] {
				above = append(above, b)
			}
		}
		checkNames(t, fmt.Sprintf("Below %q", a)+what, order.Below(a, l...), below)
		checkNames(t, fmt.Sprintf("Above %q", a)+what, order.Above(a, l...), above)
	}
}

func TestP14ByWords(t *testing.T) {
	r := rand.New(rand.NewSource(14))
	rings := 0
	for range 1000 {
		checkEdges(t, someEdges(r, 6, r.Intn(3)+1))
		checkEdges(t, someStairs(r, 6, 3))
		l := someRings(r, 6)
		checkEdges(t, l)
		if len(order.Ring(l...)) > 2 {
			rings++
		}
	}
	check(t, "are there enough rings of three and more", rings > 500, true)
}

func TestP14_2RightByWords(t *testing.T) {
	r := rand.New(rand.NewSource(142))
	right := 0
	for range 30000 {
		l := someStairs(r, 5, 2)
		names := namesOf(l)
		r.Shuffle(len(names), func(i, j int) { names[i], names[j] = names[j], names[i] })
		if len(names) > 0 && r.Intn(4) == 0 {
			names[r.Intn(len(names))] = pool()[r.Intn(len(pool()))]
		}
		wanted := isRight(names, l)
		if wanted {
			right++
		}
		check(t, fmt.Sprintf("Right of %q, of %q", names, fmt.Sprint(l)), order.Right(names, l...), wanted)
	}
	check(t, "are enough of them right", right > 5000, true)
}

// some is many edges, whose names stand in no order; of each three lists two have no ring.
func some(r *rand.Rand, n int) []order.Edge {
	l := make([]order.Edge, n)
	at := append(r.Perm(n), n, n+1, n+2)
	rings := r.Intn(3) == 0
	for i := range l {
		l[i].Name = fmt.Sprint("n", at[i])
		for range r.Intn(5) {
			need := at[i+1+r.Intn(n+2-i)]
			if rings && r.Intn(4) == 0 {
				need = at[r.Intn(n)]
			}
			l[i].Needs = append(l[i].Needs, fmt.Sprint("n", need))
		}
	}
	return l
}

// TestP14_4AnyOrder: the edges' order in the list plays no part, nor does that of needs; one is below another one just if that is above it; there is an order just if there is no ring.
func TestP14_4AnyOrder(t *testing.T) {
	r := rand.New(rand.NewSource(144))
	orders := 0
	for range 600 {
		l := some(r, 1+r.Intn(64))
		turned := make([]order.Edge, len(l))
		for i, at := range r.Perm(len(l)) {
			turned[i] = order.Edge{Name: l[at].Name, Needs: append(slices.Clone(l[at].Needs), l[at].Needs...)}
			x := turned[i].Needs
			r.Shuffle(len(x), func(i, j int) { x[i], x[j] = x[j], x[i] })
		}
		got, e := order.Sort(l...)
		other, wrong := order.Sort(turned...)
		checkNames(t, "order", other, got)
		check(t, "error", wrong, e)
		ring := order.Ring(l...)
		checkNames(t, "ring", order.Ring(turned...), ring)
		check(t, "is there no ring", len(ring) == 0, e == api.OK)
		if e == api.OK {
			orders++
			check(t, "Right", order.Right(got, l...), true)
		}
		for i, name := range ring {
			check(t, "does it need the next one", needs(l, name, ring[(i+1)%len(ring)]), true)
		}
		checkBothWays(t, l, turned)
	}
	check(t, "are enough without a ring", orders > 100, true)
}

// checkBothWays fails the test, if a name is below another one, but that isn't above it, or so the other way.
func checkBothWays(t *testing.T, l, turned []order.Edge) {
	t.Helper()
	above := map[string][]string{}
	for _, name := range namesOf(l) {
		above[name] = order.Above(name, l...)
		checkNames(t, "Above "+name, order.Above(name, turned...), above[name])
		check(t, "does Above rise", slices.IsSorted(above[name]), true)
	}
	for _, name := range namesOf(l) {
		below := order.Below(name, l...)
		checkNames(t, "Below "+name, order.Below(name, turned...), below)
		for _, other := range namesOf(l) {
			check(t, name+" above "+other, slices.Contains(above[other], name), slices.Contains(below, other))
		}
	}
}

// TestMostEdges is a ring of as many edges as may be, and one of each with each.
func TestMostEdges(t *testing.T) {
	var around, all []order.Edge
	var names []string
	for i := range 64 {
		names = append(names, fmt.Sprintf("n%02d", i))
	}
	for i, name := range names {
		around = append(around, order.Edge{Name: name, Needs: []string{names[(i+63)%64]}})
		all = append(all, order.Edge{Name: name, Needs: slices.Delete(slices.Clone(names), i, i+1)})
	}
	back := slices.Clone(names[1:])
	slices.Reverse(back)
	checkNames(t, "ring around", order.Ring(around...), append([]string{"n00"}, back...))
	checkNames(t, "Below", order.Below("n07", around...), names)
	checkNames(t, "Above", order.Above("n07", around...), names)
	checkNames(t, "ring of all", order.Ring(all...), []string{"n00", "n01"})
	checkNames(t, "Below of all", order.Below("n63", all...), names)
	around[0].Needs = nil
	got, e := order.Sort(around...)
	check(t, "error", e, api.OK)
	checkNames(t, "order of a chain", got, names)
	checkNames(t, "Above of a chain", order.Above("n07", around...), names[8:])
}

// TestMemory: what is handed in stays as it is, its spare room too; what is done to an answer is seen in no other one.
func TestMemory(t *testing.T) {
	room := []string{"tax", "gross", "tax", "spare"}
	l := append(edges("tax gross free, gross base, on off, off on"), order.Edge{Name: "net", Needs: room[:3]}, order.Edge{Name: "spare"})
	before := fmt.Sprint(l)
	for range 3 {
		for _, hand := range []func(l ...order.Edge) []string{
			func(l ...order.Edge) []string { names, _ := order.Sort(l[:2]...); return names },
			order.Ring,
			func(l ...order.Edge) []string { return order.Below("net", l...) },
			func(l ...order.Edge) []string { return order.Above("base", l...) },
		} {
			names := hand(l[:5]...)
			again := slices.Clone(names)
			check(t, "is something told", len(names) > 0, true)
			clear(append(names[:1], "q"))
			clear(names)
			checkNames(t, "told again", hand(l[:5]...), again)
		}
		names := []string{"gross", "tax", "net"}
		order.Right(names, l[0], l[1], l[4])
		checkNames(t, "the order that was handed in", names, []string{"gross", "tax", "net"})
	}
	check(t, "what was handed in", fmt.Sprint(l), before)
	checkNames(t, "needs that were handed in", room, []string{"tax", "gross", "tax", "spare"})
}
