package attach_test

import (
	"fmt"
	"maps"
	"math/rand"
	"slices"
	"strings"
	"testing"

	"wagebook/api"
	"wagebook/attach"
)

func TestP26_1Check(t *testing.T) {
	right := api.Order{Code: "a", Rank: 1, Rate: 100000, Fixed: 5, Protect: 6, Total: 7}
	check(t, "no orders", attach.Check(), api.OK)
	check(t, "a right one", attach.Check(right), api.OK)
	check(t, "one of noughts", attach.Check(api.Order{Code: "a"}), api.OK)
	check(t, "one of the greatest", attach.Check(api.Order{Code: "z", Rank: 99, Rate: one, Fixed: most, Protect: most, Total: most}), api.OK)
	check(t, "as many as there may be", attach.Check(many(64)...), api.OK)
	check(t, "too many", attach.Check(many(65)...), api.ErrMany)
	check(t, "too many, none right", attach.Check(make([]api.Order, 65)...), api.ErrMany)
	for _, code := range []string{"-a", "a-", "--", ".", "_", "0", "a.b_c-9", strings.Repeat("z", 32)} {
		check(t, "code "+code, attach.Check(api.Order{Code: code}), api.OK)
	}
	for _, code := range []string{"", "-", "A", "a b", "a:b", "ä", "a\n", "a\x00", strings.Repeat("z", 33), strings.Repeat("z", 5000)} {
		what := fmt.Sprintf("code %.40q", code)
		check(t, what, attach.Check(api.Order{Code: code}), api.ErrName)
		check(t, what+", ahead of its numbers", attach.Check(api.Order{Code: code, Rank: -1}), api.ErrName)
		check(t, what+", ahead of ErrTwice", attach.Check(right, api.Order{Code: code}, api.Order{Code: code}), api.ErrName)
	}
	for _, spoil := range spoilt() {
		o := right
		spoil(&o)
		what := fmt.Sprintf("%+v", o)
		check(t, what, attach.Check(o), api.ErrRange)
		check(t, what+", ahead of ErrTwice", attach.Check(right, o), api.ErrRange)
		check(t, what+", order by order", attach.Check(o, right, api.Order{}), api.ErrRange)
		check(t, what+", behind a wrong one", attach.Check(api.Order{}, o), api.ErrName)
		check(t, what+", behind one that stands twice", attach.Check(right, right, o), api.ErrTwice)
	}
	other := api.Order{Code: "b"}
	check(t, "one twice", attach.Check(right, right), api.ErrTwice)
	check(t, "one twice, of other ranks", attach.Check(right, other, api.Order{Code: "a", Rank: 9}), api.ErrTwice)
	check(t, "one twice, ahead of a wrong one", attach.Check(right, other, right, api.Order{}), api.ErrTwice)
}

// spoilt are what makes an order's numbers wrong, one by one.
func spoilt() []func(*api.Order) {
	var l []func(*api.Order)
	for _, n := range []int{-1, 100, lowest, highest} {
		l = append(l, func(o *api.Order) { o.Rank = n })
	}
	for _, r := range []api.Rate{-1, one + 1, lowest, highest} {
		l = append(l, func(o *api.Order) { o.Rate = r })
	}
	for _, c := range []api.Cents{-1, most + 1, -most, lowest, highest} {
		l = append(l, func(o *api.Order) { o.Fixed = c }, func(o *api.Order) { o.Protect = c }, func(o *api.Order) { o.Total = c })
	}
	return l
}

func TestP26_1CheckByWords(t *testing.T) {
	r := rand.New(rand.NewSource(2611))
	seen := map[api.Errno]int{}
	for range 20000 {
		l := someOrders(r, 50, true)
		wanted := checkByWords(l)
		check(t, fmt.Sprintf("Check of %+v", l), attach.Check(l...), wanted)
		seen[wanted]++
	}
	for _, e := range []api.Errno{api.OK, api.ErrName, api.ErrRange, api.ErrTwice} {
		check(t, fmt.Sprint("error ", e, " is come to"), seen[e] > 50, true)
	}
}

func TestP26_1Sort(t *testing.T) {
	l := []api.Order{
		fixed("c", 2, 0), fixed("b", 1, 0), fixed("a", 2, 0), fixed("a", 99, 0), fixed("zz", 0, 0), fixed("z", 0, 0), fixed("z-", 0, 0), // -, ., 0, _, a
		fixed("z_", 0, 0), fixed("z0", 0, 0), fixed("z.", 0, 0), fixed("", 1, 0), fixed("B", 1, 0), fixed("\xff", 1, 0), fixed("ä", 1, 0), fixed("x", -3, 0), fixed("y", highest, 0), fixed("y", lowest, 0),
	}
	wanted := "y.x.z.z-.z..z0.z_.zz..B.b.ä.\xff.a.c.a.y"
	var codes []string
	for _, o := range attach.Sort(l...) {
		codes = append(codes, o.Code)
	}
	check(t, "codes as they are served", strings.Join(codes, "."), wanted)
	check(t, "none", len(attach.Sort()), 0)
}

// TestP26_1SortAlike: those that are alike in Rank and Code stay as they stand; orders may be as many as one likes.
func TestP26_1SortAlike(t *testing.T) {
	r := rand.New(rand.NewSource(2612))
	for _, n := range []int{1, 2, 3, 10, 64, 65, 300, 2000} {
		for range 20 {
			l := make([]api.Order, n)
			for i := range l {
				l[i] = api.Order{Code: string(rune('a' + r.Intn(3))), Rank: r.Intn(5) - 2, Total: api.Cents(i), Fixed: api.Cents(r.Intn(5)), Protect: api.Cents(r.Intn(5)), Rate: api.Rate(r.Intn(5))}
			}
			check(t, fmt.Sprint("as they are served, of ", n), slices.Equal(attach.Sort(l...), servedByWords(l)), true)
		}
	}
}

func TestP26_2Left(t *testing.T) {
	for _, x := range []struct {
		was    attach.Paid
		total  api.Cents
		wanted api.Cents
	}{
		{nil, 0, most},
		{attach.Paid{"a": 5}, 0, most},
		{attach.Paid{"a": most}, 0, most},
		{nil, 1, 1},
		{nil, 50000, 50000},
		{attach.Paid{"a": 40000}, 50000, 10000},
		{attach.Paid{"a": 49999}, 50000, 1},
		{attach.Paid{"a": 50000}, 50000, 0},
		{attach.Paid{"a": 50001}, 50000, 0},
		{attach.Paid{"b": 40000}, 50000, 50000},
		{attach.Paid{"a": -1}, 50000, 50000},
		{attach.Paid{"a": lowest}, 50000, 50000},
		{attach.Paid{"a": highest}, 50000, 0},
		{nil, most, most},
		{attach.Paid{"a": 1}, most, most - 1},
		{nil, most + 1, most},
		{attach.Paid{"a": 1}, most + 1, most},
		{attach.Paid{"a": 2}, most + 1, most - 1},
		{nil, highest, most},
		{attach.Paid{"a": lowest}, highest, most},
		{attach.Paid{"a": highest - 7}, highest, 7},
		{attach.Paid{"a": highest}, highest, 0},
		{nil, -1, 0},
		{attach.Paid{"a": -5}, -1, 0},
		{attach.Paid{"a": highest}, -1, 0},
		{attach.Paid{"a": highest}, -2, 0}, // together farther from 0 than 64 bits reach
		{attach.Paid{"a": 5}, lowest, 0},
		{attach.Paid{"a": highest}, lowest, 0},
		{attach.Paid{"a": lowest}, lowest, 0},
	} {
		o := api.Order{Code: "a", Total: x.total}
		what := fmt.Sprint("left of ", x.total, " behind ", x.was)
		check(t, what, attach.Left(x.was, o), x.wanted)
		o = api.Order{Code: "a", Rank: -1, Rate: lowest, Fixed: highest, Protect: -1, Total: x.total} // nothing else counts
		check(t, what+", of any order", attach.Left(x.was, o), x.wanted)
	}
	check(t, "left of what is no name", attach.Left(attach.Paid{"A b": 3}, api.Order{Code: "A b", Total: 5}), 2)
	r := rand.New(rand.NewSource(2621))
	for range 20000 {
		was, o := somePaid(r, 50, true), someOrder(r, 50, true)
		check(t, fmt.Sprintf("left behind %v of %+v", was, o), attach.Left(was, o), leftByWords(was, o))
	}
}

// TestP26_3Example: the chapter's.
func TestP26_3Example(t *testing.T) {
	l := []api.Order{{Code: "fine", Rank: 1, Rate: 100000, Protect: 120000}, {Code: "child", Rank: 2, Fixed: 90000, Protect: 150000}}
	checkTaken(t, 200000, nil, l, items("fine", 20000, "child", 30000), attach.Paid{"fine": 20000, "child": 30000})
	l[1].Total = 50000
	checkTaken(t, 200000, attach.Paid{"child": 40000}, l, items("fine", 20000, "child", 10000), attach.Paid{"fine": 20000, "child": 50000})
}

func TestP26_3Take(t *testing.T) {
	all := int(most)
	for _, x := range []struct {
		net    api.Cents
		was    attach.Paid
		l      []api.Order
		wanted []api.Item
		now    attach.Paid
	}{
		{100, nil, nil, nil, nil},
		{100, attach.Paid{"a": 5, "": -7}, nil, nil, attach.Paid{"a": 5, "": -7}},
		{100, nil, []api.Order{fixed("b", 1, 30), fixed("a", 2, 20)}, items("b", 30, "a", 20), attach.Paid{"a": 20, "b": 30}},
		{100, nil, []api.Order{fixed("a", 2, 20), fixed("b", 1, 30)}, items("b", 30, "a", 20), attach.Paid{"a": 20, "b": 30}},
		{100, nil, []api.Order{fixed("b", 1, 30), fixed("a", 1, 20)}, items("a", 20, "b", 30), attach.Paid{"a": 20, "b": 30}},
		{100, nil, []api.Order{fixed("b", 0, 80), fixed("a", 99, 30)}, items("b", 80, "a", 20), attach.Paid{"a": 20, "b": 80}},
		{100, nil, []api.Order{fixed("a", 1, 100), fixed("b", 1, 1)}, items("a", 100), attach.Paid{"a": 100, "b": 0}},
		// What it wants.
		{100, nil, []api.Order{{Code: "a"}}, nil, attach.Paid{"a": 0}},
		{100, nil, []api.Order{{Code: "a", Rate: one, Fixed: 7}}, items("a", 7), attach.Paid{"a": 7}},
		{105, nil, []api.Order{{Code: "a", Rate: 100000}}, items("a", 11), attach.Paid{"a": 11}}, // 10.5
		{104, nil, []api.Order{{Code: "a", Rate: 100000}}, items("a", 10), attach.Paid{"a": 10}}, // 10.4
		{4, nil, []api.Order{{Code: "a", Rate: 100000}}, nil, attach.Paid{"a": 0}},
		{1000, nil, []api.Order{fixed("a", 1, 600), {Code: "b", Rank: 2, Rate: 300000}}, items("a", 600, "b", 300), attach.Paid{"a": 600, "b": 300}}, // of the whole net
		{1000, nil, []api.Order{fixed("a", 1, 800), {Code: "b", Rank: 2, Rate: 300000}}, items("a", 800, "b", 200), attach.Paid{"a": 800, "b": 200}},
		{most, nil, []api.Order{{Code: "a", Rate: one}}, items("a", all), attach.Paid{"a": most}},
		{most, nil, []api.Order{{Code: "a", Rate: one - 1}}, items("a", all-1125899907), attach.Paid{"a": most - 1125899907}},
		// What is left of its total.
		{100, attach.Paid{"a": 95}, []api.Order{{Code: "a", Fixed: 20, Total: 100}}, items("a", 5), attach.Paid{"a": 100}},
		{100, attach.Paid{"a": 100}, []api.Order{{Code: "a", Fixed: 20, Total: 100}}, nil, attach.Paid{"a": 100}},
		{100, attach.Paid{"a": 120}, []api.Order{{Code: "a", Fixed: 20, Total: 100}}, nil, attach.Paid{"a": 120}},
		{100, attach.Paid{"a": 95}, []api.Order{{Code: "a", Rate: one, Total: 100}}, items("a", 5), attach.Paid{"a": 100}},
		{100, attach.Paid{"a": 95}, []api.Order{fixed("a", 0, 20)}, items("a", 20), attach.Paid{"a": 115}},
		{100, attach.Paid{"b": 95}, []api.Order{{Code: "a", Fixed: 20, Total: 100}}, items("a", 20), attach.Paid{"a": 20, "b": 95}},
		{100, attach.Paid{"a": 95}, []api.Order{{Code: "a", Fixed: 50, Total: 100}, {Code: "b", Fixed: 90}}, items("a", 5, "b", 90), attach.Paid{"a": 100, "b": 90}}, // what one can't take is left to the next
		// What is protected.
		{100, nil, []api.Order{{Code: "a", Fixed: 50, Protect: 60}}, items("a", 40), attach.Paid{"a": 40}},
		{100, nil, []api.Order{{Code: "a", Fixed: 50, Protect: 50}}, items("a", 50), attach.Paid{"a": 50}},
		{100, nil, []api.Order{{Code: "a", Fixed: 50, Protect: 99}}, items("a", 1), attach.Paid{"a": 1}},
		{100, nil, []api.Order{{Code: "a", Fixed: 50, Protect: 100}}, nil, attach.Paid{"a": 0}},
		{100, nil, []api.Order{{Code: "a", Fixed: 50, Protect: most}}, nil, attach.Paid{"a": 0}},
		{100, nil, []api.Order{{Code: "a", Rate: one, Protect: 30}, {Code: "b", Fixed: 9, Protect: 40}, {Code: "c", Fixed: 20, Protect: 20}, {Code: "d", Fixed: 90}}, items("a", 70, "c", 10, "d", 20), attach.Paid{"a": 70, "b": 0, "c": 10, "d": 20}},
		{100, nil, []api.Order{{Code: "a", Rank: 1, Fixed: 30, Protect: 200}, {Code: "b", Rank: 2, Fixed: 30}}, items("b", 30), attach.Paid{"a": 0, "b": 30}}, // one that takes nothing gives nothing
		// A net that isn't above 0.
		{0, attach.Paid{"a": 7}, []api.Order{fixed("a", 1, 5), {Code: "b", Rate: one}}, nil, attach.Paid{"a": 7, "b": 0}},
		{-1, nil, []api.Order{fixed("a", 1, 5), {Code: "b", Rate: one}}, nil, attach.Paid{"a": 0, "b": 0}},
		{-most, nil, []api.Order{{Code: "a", Fixed: most, Protect: most}, {Code: "b", Rate: one, Protect: most}}, nil, attach.Paid{"a": 0, "b": 0}},
		{100, attach.Paid{"A b": -5, "z": highest}, []api.Order{fixed("a", 1, 5)}, items("a", 5), attach.Paid{"A b": -5, "z": highest, "a": 5}}, // what isn't asked for needn't be right
		{100, attach.Paid{"a": most - 5}, []api.Order{fixed("a", 1, 5)}, items("a", 5), attach.Paid{"a": most}},
		{100, attach.Paid{"a": most}, []api.Order{{Code: "a", Fixed: 5, Total: most}}, nil, attach.Paid{"a": most}},
		{100, attach.Paid{"a": most}, []api.Order{{Code: "a", Fixed: 5, Protect: 100}}, nil, attach.Paid{"a": most}},
	} {
		checkTaken(t, x.net, x.was, x.l, x.wanted, x.now)
	}
	got, now, e := attach.Take(1000, nil, many(64)...)
	check(t, "error of as many as there may be", e, api.OK)
	check(t, "as many as there may be", len(got)+len(now), 2*64)
}

func TestP26_3Errors(t *testing.T) {
	a, b, nameless := fixed("a", 2, 5), fixed("b", 1, 5), fixed("", 3, 5)
	spoilt := api.Order{Code: "a", Rank: 2, Fixed: -1}
	bad := attach.Paid{"a": -1}
	full := attach.Paid{"a": most - 4}
	for _, x := range []struct {
		net    api.Cents
		was    attach.Paid
		l      []api.Order
		wanted api.Errno
	}{
		{most + 1, nil, nil, api.ErrRange},
		{-most - 1, nil, nil, api.ErrRange},
		{highest, nil, make([]api.Order, 65), api.ErrRange}, // ahead of Check's
		{lowest, nil, []api.Order{nameless}, api.ErrRange},
		{100, nil, many(65), api.ErrMany},
		{100, bad, []api.Order{a, nameless}, api.ErrName}, // Check's, ahead of what was taken
		{100, nil, []api.Order{nameless, spoilt}, api.ErrName},
		{100, nil, []api.Order{spoilt, nameless}, api.ErrRange},
		{100, nil, []api.Order{nameless, b}, api.ErrName},
		{100, nil, []api.Order{a, b, a}, api.ErrTwice},
		{100, full, []api.Order{b, b, a}, api.ErrTwice},
		{100, bad, []api.Order{a, b}, api.ErrRange},
		{-100, bad, []api.Order{a, b}, api.ErrRange}, // also where nothing is taken
		{100, attach.Paid{"a": most + 1}, []api.Order{{Code: "a", Fixed: 5, Total: 5}}, api.ErrRange},
		{100, attach.Paid{"a": highest}, []api.Order{a}, api.ErrRange},
		{100, attach.Paid{"a": lowest}, []api.Order{a}, api.ErrRange},
		{100, full, []api.Order{a}, api.ErrOverflow},
		{100, attach.Paid{"a": most}, []api.Order{{Code: "a", Fixed: 1}}, api.ErrOverflow},
		{100, attach.Paid{"a": most}, []api.Order{{Code: "a", Rate: 5000}}, api.ErrOverflow}, // 0.5
		{most, attach.Paid{"a": 1}, []api.Order{{Code: "a", Fixed: most}}, api.ErrOverflow},
		{most, attach.Paid{"a": most}, []api.Order{{Code: "a", Fixed: most}}, api.ErrOverflow},
		// Order by order, as they are served: b ahead of a.
		{100, attach.Paid{"a": most - 4, "b": -1}, []api.Order{a, b}, api.ErrRange},
		{100, attach.Paid{"a": -1, "b": most - 4}, []api.Order{a, b}, api.ErrOverflow},
		{100, attach.Paid{"a": most - 4, "b": 7}, []api.Order{a, b}, api.ErrOverflow},
	} {
		checkRefused(t, x.net, x.was, x.l, x.wanted)
	}
}

func TestP26_3ByWords(t *testing.T) {
	r := rand.New(rand.NewSource(2631))
	seen := map[api.Errno]int{}
	for i := range 60000 {
		bits := []int{50, 14, 6}[i%3]
		net, was, l := someAmount(r, bits, true), somePaid(r, bits, true), someOrders(r, bits, true)
		if r.Intn(10) == 0 {
			net = -net
		}
		taken, now, e := takeByWords(net, was, l)
		if seen[e]++; e != api.OK {
			checkRefused(t, net, was, l, e)
		} else {
			checkTaken(t, net, was, l, taken, now)
		}
	}
	for _, e := range []api.Errno{api.OK, api.ErrRange, api.ErrName, api.ErrTwice, api.ErrOverflow} {
		check(t, fmt.Sprint("error ", e, " is come to"), seen[e] > 50, true)
	}
}

// taken is what items have of a code.
func taken(l []api.Item, code string) api.Cents {
	var sum api.Cents
	for _, i := range l {
		if i.Code == code {
			sum += i.Cents
		}
	}
	return sum
}

// TestP26_4: behind each order at least what it protects is left, or what was left ahead of it; what one takes doesn't hang on those behind it.
func TestP26_4(t *testing.T) {
	r := rand.New(rand.NewSource(2641))
	for i := range 20000 {
		bits := []int{14, 6}[i%2]
		net, was, l := someAmount(r, bits, false)-api.Cents(r.Intn(20)), somePaid(r, bits, false), someOrders(r, bits, false)
		got, _, e := attach.Take(net, was, l...)
		what := named(net, was, l)
		check(t, "error of "+what, e, api.OK)
		left := net
		served := attach.Sort(l...)
		for i, o := range served {
			behind := left - taken(got, o.Code)
			check(t, "what is left behind "+o.Code+" of "+what, behind >= min(o.Protect, left), true)
			alone, _, e := attach.Take(net, was, served[:i+1]...)
			check(t, "error without those behind "+o.Code+" of "+what, e, api.OK)
			check(t, "without those behind "+o.Code+" of "+what, taken(alone, o.Code), taken(got, o.Code))
			left = behind
		}
	}
}

// TestP26_4Order: the orders' order in the list plays no part.
func TestP26_4Order(t *testing.T) {
	r := rand.New(rand.NewSource(2642))
	for range 5000 {
		net, was, l := someAmount(r, 14, false), somePaid(r, 14, false), someOrders(r, 14, false)
		items, now, e := attach.Take(net, was, l...)
		check(t, "error of "+named(net, was, l), e, api.OK)
		r.Shuffle(len(l), func(i, j int) { l[i], l[j] = l[j], l[i] })
		checkTaken(t, net, was, l, items, now)
	}
}

// TestP26_4Total: no total is passed, net by net.
func TestP26_4Total(t *testing.T) {
	r := rand.New(rand.NewSource(2643))
	for range 1000 {
		l := someOrders(r, 14, false)
		now, all := attach.Paid{}, attach.Paid{}
		for range 1 + r.Intn(15) {
			net := someAmount(r, 12, false)
			items, behind, e := attach.Take(net, now, l...)
			check(t, "error of "+named(net, now, l), e, api.OK)
			for _, o := range l {
				all[o.Code] += taken(items, o.Code)
				check(t, "no total is passed by "+named(net, now, l), o.Total == 0 || all[o.Code] <= o.Total, true)
				check(t, "what was taken in all by "+named(net, now, l), behind[o.Code], all[o.Code])
			}
			now = behind
		}
	}
}

// TestMemory: what is handed in stays as it was, spare room included, also where a later order is refused; what is answered is new.
func TestMemory(t *testing.T) {
	was := attach.Paid{"a": 5, "full": most, "else": 7}
	l := []api.Order{fixed("b", 2, 30), fixed("a", 1, 10), fixed("full", 3, 1)}
	keptWas, kept := maps.Clone(was), slices.Clone(l)
	got, now, e := attach.Take(100, was, l[:2]...)
	check(t, "error", e, api.OK)
	more, again, _ := attach.Take(100, was, l[:2]...)
	_, _, e = attach.Take(100, was, l...)
	check(t, "error of the last one", e, api.ErrOverflow)
	check(t, "error of Check", attach.Check(l[:2]...), api.OK)
	_ = attach.Left(was, l[0])
	served, other := attach.Sort(l[:2]...), attach.Sort(l[:2]...)
	served[0].Code = "spoilt"
	_ = append(served[:1], api.Order{})
	check(t, "orders that were handed in", slices.Equal(l, kept), true)
	check(t, "orders that were told twice", slices.Equal(other, []api.Order{kept[1], kept[0]}), true)
	one := l[:1]
	attach.Sort(one...)[0].Code = "spoilt"
	now["a"], now["new"] = 0, 0
	delete(now, "else")
	got[0].Cents = 0
	_ = append(got[:1], api.Item{})
	check(t, "orders that were handed in, still", slices.Equal(l, kept), true)
	check(t, "sums that were handed in", maps.Equal(was, keptWas), true)
	check(t, "sums that were told twice", maps.Equal(again, attach.Paid{"a": 15, "b": 30, "full": most, "else": 7}), true)
	check(t, "items that were told twice", slices.Equal(more, items("a", 10, "b", 30)), true)
	_, same, _ := attach.Take(100, was)
	same["a"] = 0
	check(t, "sums without an order are new, too", maps.Equal(was, keptWas), true)
}

// TestP1NoPanic hands each call what is farthest out.
func TestP1NoPanic(t *testing.T) {
	far := []int{lowest, lowest + 1, -int(most) - 1, -int(most), -1, 0, 1, int(most) - 1, int(most), int(most) + 1, highest - 1, highest}
	for _, a := range far {
		for _, b := range far {
			for _, c := range far {
				was := attach.Paid{"a": api.Cents(a), "b": api.Cents(c)}
				l := []api.Order{{Code: "a", Rank: b, Rate: api.Rate(c), Fixed: api.Cents(a), Protect: api.Cents(b), Total: api.Cents(c)}, {Code: "b", Fixed: api.Cents(b), Protect: api.Cents(c)}}
				_, _, _ = attach.Take(api.Cents(a), was, l...)
				_, _, _ = attach.Take(api.Cents(a), was, l[1:]...)
				_, _, _ = attach.Take(api.Cents(c), was, api.Order{Code: "a", Fixed: api.Cents(b), Total: api.Cents(a)})
				_ = attach.Sort(l...)
				_ = attach.Check(l...)
				_ = attach.Left(was, l[0])
			}
		}
	}
}
