package social_test

import (
	"fmt"
	"maps"
	"math/rand"
	"slices"
	"strings"
	"testing"

	"wagebook/api"
	"wagebook/social"
)

// TestP23_1Example: the chapter's, month by month.
func TestP23_1Example(t *testing.T) {
	now := social.Sums{}
	for i, wanted := range []social.Sums{
		{Base: 300000, Insured: 300000, Worker: 30000, Firm: 36000},
		{Base: 600000, Insured: 600000, Worker: 60000, Firm: 72000},
		{Base: 900000, Insured: 700000, Worker: 70000, Firm: 84000},
		{Base: 1200000, Insured: 700000, Worker: 70000, Firm: 84000},
	} {
		behind, e := social.Step(now, scheme("old", 700000), 300000)
		check(t, fmt.Sprint("error of month ", i+1), e, api.OK)
		check(t, fmt.Sprint("month ", i+1), behind, wanted)
		now = behind
	}
	owed := social.Sums{Base: -50000}
	checkStep(t, social.Sums{}, scheme("old", 700000), -50000, owed)
	checkStep(t, owed, scheme("old", 700000), 300000, social.Sums{Base: 250000, Insured: 250000, Worker: 25000, Firm: 30000})
}

func TestP23_1Step(t *testing.T) {
	full := api.Scheme{Code: "a", Worker: one, Firm: one}
	for _, x := range []struct {
		was    social.Sums
		s      api.Scheme
		base   api.Cents
		wanted social.Sums
	}{
		{social.Sums{}, scheme("a", 0), 0, social.Sums{}},
		{social.Sums{}, api.Scheme{Code: "a"}, 500, social.Sums{Base: 500, Insured: 500}}, // of rates of 0 nothing, but it is insured
		{social.Sums{}, api.Scheme{Code: "a", Worker: 500000}, 1, social.Sums{Base: 1, Insured: 1, Worker: 1}},
		{social.Sums{}, api.Scheme{Code: "a", Firm: 500000}, 3, social.Sums{Base: 3, Insured: 3, Firm: 2}},
		{social.Sums{}, api.Scheme{Code: "a", Worker: 499999, Firm: 500001}, 1, social.Sums{Base: 1, Insured: 1, Firm: 1}},
		{social.Sums{Base: 1, Insured: 1, Worker: 1}, api.Scheme{Code: "a", Worker: 500000}, 1, social.Sums{Base: 2, Insured: 2, Worker: 2}}, // each period is rounded
		{social.Sums{}, scheme("a", 1), 100, social.Sums{Base: 100, Insured: 1}},
		{social.Sums{}, scheme("a", 100), 100, social.Sums{Base: 100, Insured: 100, Worker: 10, Firm: 12}},
		{social.Sums{}, scheme("a", 101), 100, social.Sums{Base: 100, Insured: 100, Worker: 10, Firm: 12}},
		{social.Sums{}, scheme("a", 99), 100, social.Sums{Base: 100, Insured: 99, Worker: 10, Firm: 12}},
		{social.Sums{Base: 900, Insured: 900, Worker: 7, Firm: 8}, scheme("a", 500), 100, social.Sums{Base: 1000, Insured: 900, Worker: 7, Firm: 8}}, // nothing is given back
		{social.Sums{Base: 900, Insured: 500, Worker: 7, Firm: 8}, scheme("a", 800), 0, social.Sums{Base: 900, Insured: 800, Worker: 37, Firm: 44}},  // a ceiling that has risen
		{social.Sums{Base: 900, Insured: 500, Worker: 7, Firm: 8}, scheme("a", 0), 0, social.Sums{Base: 900, Insured: 900, Worker: 47, Firm: 56}},    // or is gone
		{social.Sums{Base: 900, Insured: 900, Worker: 90, Firm: 99}, scheme("a", 0), -300, social.Sums{Base: 600, Insured: 900, Worker: 90, Firm: 99}},
		{social.Sums{Base: 600, Insured: 900, Worker: 90, Firm: 99}, scheme("a", 0), 300, social.Sums{Base: 900, Insured: 900, Worker: 90, Firm: 99}},
		{social.Sums{Base: 600, Insured: 900, Worker: 90, Firm: 99}, scheme("a", 0), 310, social.Sums{Base: 910, Insured: 910, Worker: 91, Firm: 100}},
		{social.Sums{Base: -600}, scheme("a", 0), -300, social.Sums{Base: -900}},
		{social.Sums{Base: -600}, scheme("a", 0), 600, social.Sums{}},
		{social.Sums{Insured: 100}, scheme("a", 0), 50, social.Sums{Base: 50, Insured: 100}}, // sums needn't fit each other
		{social.Sums{}, full, most, social.Sums{Base: most, Insured: most, Worker: most, Firm: most}},
		{social.Sums{}, api.Scheme{Code: "a", Worker: one, Ceiling: most}, most, social.Sums{Base: most, Insured: most, Worker: most}},
		{social.Sums{Base: most, Insured: most, Worker: most, Firm: most}, full, -most, social.Sums{Insured: most, Worker: most, Firm: most}},
		{social.Sums{Base: most, Insured: most, Worker: most, Firm: most}, full, 0, social.Sums{Base: most, Insured: most, Worker: most, Firm: most}},
		{social.Sums{Base: -most}, full, most, social.Sums{}},
		{social.Sums{Base: -most}, full, 0, social.Sums{Base: -most}},
		{social.Sums{Base: most - 5, Insured: 5}, api.Scheme{Code: "a", Ceiling: 9}, 5, social.Sums{Base: most, Insured: 9}},
		{social.Sums{Worker: most - 10, Firm: most - 12}, scheme("a", 0), 104, social.Sums{Base: 104, Insured: 104, Worker: most, Firm: most}},
		{social.Sums{Worker: most, Firm: most}, scheme("a", 0), 4, social.Sums{Base: 4, Insured: 4, Worker: most, Firm: most}},
	} {
		checkStep(t, x.was, x.s, x.base, x.wanted)
	}
	for _, code := range []string{"a", "-a", "a-", "--", ".", "_", "0", "a.b_c-9", strings.Repeat("z", 32)} {
		checkStep(t, social.Sums{}, scheme(code, 0), 100, social.Sums{Base: 100, Insured: 100, Worker: 10, Firm: 12})
	}
}

func TestP23_1Errors(t *testing.T) {
	for _, was := range []social.Sums{
		{Base: most + 1}, {Base: -most - 1}, {Base: lowest}, {Base: highest},
		{Insured: -1}, {Insured: most + 1}, {Insured: lowest}, {Insured: highest},
		{Worker: -1}, {Worker: most + 1}, {Worker: lowest}, {Worker: highest},
		{Firm: -1}, {Firm: most + 1}, {Firm: lowest}, {Firm: highest},
	} {
		checkRefused(t, was, scheme("a", 0), 0, api.ErrRange)
		checkRefused(t, was, scheme("", -1), most+1, api.ErrRange) // ahead of ErrName
		check(t, fmt.Sprint("room of ", was), social.Room(was, scheme("a", 0)), 0)
		check(t, fmt.Sprint("room up to a ceiling, of ", was), social.Room(was, scheme("a", most)), 0)
	}
	for _, code := range []string{"", "-", "A", "a b", "a:b", "ä", "a\n", "a\x00", strings.Repeat("z", 33), strings.Repeat("z", 5000)} {
		checkRefused(t, social.Sums{}, scheme(code, 0), 0, api.ErrName)
		checkRefused(t, social.Sums{Base: most}, scheme(code, -1), most+1, api.ErrName) // ahead of the rest's ErrRange
		check(t, fmt.Sprintf("room by %.40q", code), social.Room(social.Sums{}, scheme(code, 0)), 0)
	}
	for _, s := range []api.Scheme{
		{Code: "a", Worker: -1}, {Code: "a", Worker: one + 1}, {Code: "a", Worker: lowest}, {Code: "a", Worker: highest},
		{Code: "a", Firm: -1}, {Code: "a", Firm: one + 1}, {Code: "a", Firm: lowest}, {Code: "a", Firm: highest},
		{Code: "a", Ceiling: -1}, {Code: "a", Ceiling: most + 1}, {Code: "a", Ceiling: lowest}, {Code: "a", Ceiling: highest},
	} {
		checkRefused(t, social.Sums{}, s, 0, api.ErrRange)
		checkRefused(t, social.Sums{Base: most}, s, 1, api.ErrRange) // ahead of ErrOverflow
		check(t, fmt.Sprint("room by ", s), social.Room(social.Sums{}, s), 0)
	}
	for _, base := range []api.Cents{most + 1, -most - 1, lowest, highest} {
		checkRefused(t, social.Sums{}, scheme("a", 0), base, api.ErrRange)
		checkRefused(t, social.Sums{Base: most}, scheme("a", 100), base, api.ErrRange)
		checkRefused(t, social.Sums{Base: -most}, scheme("a", 100), base, api.ErrRange)
	}
}

func TestP23_1Overflow(t *testing.T) {
	for _, x := range []struct {
		was  social.Sums
		s    api.Scheme
		base api.Cents
	}{
		{social.Sums{Base: most}, scheme("a", 0), 1},
		{social.Sums{Base: most}, scheme("a", 100), 1}, // the ceiling doesn't bound the base
		{social.Sums{Base: most, Insured: most}, api.Scheme{Code: "a"}, most},
		{social.Sums{Base: 1}, api.Scheme{Code: "a"}, most},
		{social.Sums{Base: -most}, scheme("a", 0), -1},
		{social.Sums{Base: -1}, scheme("a", 100), -most},
		{social.Sums{Base: -most}, scheme("a", 0), -most},
		{social.Sums{Worker: most}, scheme("a", 0), 5},
		{social.Sums{Worker: most - 9}, scheme("a", 0), 95},
		{social.Sums{Firm: most}, scheme("a", 0), 5},
		{social.Sums{Firm: most - 11}, scheme("a", 0), 97},
		{social.Sums{Worker: most}, api.Scheme{Code: "a", Worker: one}, most},
		{social.Sums{Firm: 1}, api.Scheme{Code: "a", Firm: one, Ceiling: most}, most},
	} {
		checkRefused(t, x.was, x.s, x.base, api.ErrOverflow)
	}
}

func TestP23_1ByWords(t *testing.T) {
	r := rand.New(rand.NewSource(2311))
	seen := map[api.Errno]int{}
	for range 60000 {
		was, s, base := someSums(r), someScheme(r), someAmount(r, -most, most)
		wanted, wantedE := stepByWords(was, s, base)
		if seen[wantedE]++; wantedE != api.OK {
			checkRefused(t, was, s, base, wantedE)
		} else {
			checkStep(t, was, s, base, wanted)
		}
	}
	for _, e := range []api.Errno{api.OK, api.ErrRange, api.ErrName, api.ErrOverflow} {
		check(t, fmt.Sprint("error ", e, " is come to"), seen[e] > 50, true)
	}
}

func TestP23_2All(t *testing.T) {
	was := map[string]social.Sums{
		"old":  {Base: 600000, Insured: 600000, Worker: 60000, Firm: 72000},
		"full": {Base: 900000, Insured: 700000, Worker: 70000, Firm: 84000},
		"else": {Base: 5},
		"A b":  {Insured: -1}, // what no scheme asks for needn't be right
	}
	now, workers, firms, e := social.All(was, 200000,
		scheme("sick", 0), scheme("old", 700000), api.Scheme{Code: "firm", Firm: one}, scheme("full", 700000),
		api.Scheme{Code: "own", Worker: 5, Ceiling: 100000}, api.Scheme{Code: "little", Worker: 2, Firm: 3})
	check(t, "error", e, api.OK)
	check(t, "workers", fmt.Sprint(workers), "[{sick 20000} {old 10000} {own 1}]") // 0.5, and 0.4 of little
	check(t, "firms", fmt.Sprint(firms), "[{sick 24000} {old 12000} {firm 200000} {little 1}]")
	check(t, "sums", maps.Equal(now, map[string]social.Sums{
		"sick":   {Base: 200000, Insured: 200000, Worker: 20000, Firm: 24000},
		"old":    {Base: 800000, Insured: 700000, Worker: 70000, Firm: 84000},
		"firm":   {Base: 200000, Insured: 200000, Firm: 200000},
		"full":   {Base: 1100000, Insured: 700000, Worker: 70000, Firm: 84000},
		"own":    {Base: 200000, Insured: 100000, Worker: 1},
		"little": {Base: 200000, Insured: 200000, Firm: 1},
		"else":   {Base: 5},
		"A b":    {Insured: -1},
	}), true)
}

// TestP23_2Order: items stand as their schemes do, not as their codes.
func TestP23_2Order(t *testing.T) {
	_, workers, firms, e := social.All(nil, 100, scheme("c", 0), scheme("a", 0), scheme("b", 0))
	check(t, "error", e, api.OK)
	check(t, "workers", fmt.Sprint(workers), "[{c 10} {a 10} {b 10}]")
	check(t, "firms", fmt.Sprint(firms), "[{c 12} {a 12} {b 12}]")
}

// TestP23_2Nothing: a code that a scheme has is told, also where nothing came of it.
func TestP23_2Nothing(t *testing.T) {
	for _, base := range []api.Cents{0, -500} {
		now, workers, firms, e := social.All(nil, base, scheme("a", 0))
		check(t, "error", e, api.OK)
		check(t, "items", len(workers)+len(firms), 0)
		sums, isThere := now["a"]
		check(t, "a code is there", isThere, true)
		check(t, "sums", sums, social.Sums{Base: base})
	}
	for _, base := range []api.Cents{0, 7, highest} { // without a scheme no base is looked at
		now, workers, firms, e := social.All(map[string]social.Sums{"": {Worker: -5}}, base)
		check(t, "error", e, api.OK)
		check(t, "items", len(workers)+len(firms), 0)
		check(t, "sums", maps.Equal(now, map[string]social.Sums{"": {Worker: -5}}), true)
		checkNone(t, nil, base, nil, api.OK)
	}
}

func TestP23_2Errors(t *testing.T) {
	most64, most65 := schemes(64), schemes(65)
	now, workers, firms, e := social.All(nil, 100, most64...)
	check(t, "error of as many as there may be", e, api.OK)
	check(t, "as many as there may be", len(now)+len(workers)+len(firms), 3*64)
	checkNone(t, nil, highest, most65, api.ErrMany)
	checkNone(t, nil, 0, make([]api.Scheme, 65), api.ErrMany)
	a, b, nameless := scheme("a", 0), scheme("b", 0), scheme("", 0)
	spoilt := api.Scheme{Code: "a", Worker: -1}
	bad := map[string]social.Sums{"b": {Firm: -1}}
	full := map[string]social.Sums{"b": {Worker: most, Base: most - 200}}
	for _, x := range []struct {
		was    map[string]social.Sums
		base   api.Cents
		l      []api.Scheme
		wanted api.Errno
	}{
		{nil, 1, []api.Scheme{a, a}, api.ErrTwice},
		{nil, 1, []api.Scheme{a, b, a}, api.ErrTwice},
		{nil, 1, []api.Scheme{a, spoilt}, api.ErrTwice}, // ahead of its own errors
		{nil, 1, []api.Scheme{a, a, nameless}, api.ErrTwice},
		{bad, 1, []api.Scheme{a, a, b}, api.ErrTwice},
		{nil, 1, []api.Scheme{a, nameless, a}, api.ErrName}, // scheme by scheme
		{nil, 1, []api.Scheme{nameless, nameless}, api.ErrName},
		{nil, 1, []api.Scheme{spoilt, a}, api.ErrRange},
		{bad, 1, []api.Scheme{a, b, nameless}, api.ErrRange},
		{bad, 1, []api.Scheme{a, nameless, b}, api.ErrName},
		{nil, most + 1, []api.Scheme{nameless}, api.ErrName},
		{nil, most + 1, []api.Scheme{a, a}, api.ErrRange},
		{full, 100, []api.Scheme{a, b, nameless}, api.ErrOverflow},
		{full, 201, []api.Scheme{a, {Code: "b"}, nameless}, api.ErrOverflow},
		{full, 100, []api.Scheme{b, b}, api.ErrOverflow},
	} {
		checkNone(t, x.was, x.base, x.l, x.wanted)
	}
	_, _, _, e = social.All(bad, 1, a)
	check(t, "error of what isn't asked for", e, api.OK)
}

func TestP23_2ByWords(t *testing.T) {
	r := rand.New(rand.NewSource(2321))
	seen := map[api.Errno]int{}
	for range 20000 {
		was := map[string]social.Sums{}
		for range r.Intn(4) {
			was[string(rune('a'+r.Intn(9)))] = someSums(r)
		}
		var l []api.Scheme
		for range r.Intn(5) {
			l = append(l, someScheme(r))
		}
		base := someAmount(r, -most, most)
		now, workers, firms, e := social.All(was, base, l...)
		wanted, wantedWorkers, wantedFirms, wantedE := allByWords(was, base, l)
		what := fmt.Sprint(was, base, l)
		check(t, "error of "+what, e, wantedE)
		check(t, "sums of "+what, maps.Equal(now, wanted), true)
		check(t, "workers of "+what, slices.Equal(workers, wantedWorkers), true)
		check(t, "firms of "+what, slices.Equal(firms, wantedFirms), true)
		seen[e]++
	}
	for _, e := range []api.Errno{api.OK, api.ErrRange, api.ErrName, api.ErrTwice, api.ErrOverflow} {
		check(t, fmt.Sprint("error ", e, " is come to"), seen[e] > 50, true)
	}
}

func TestP23_3Room(t *testing.T) {
	for _, x := range []struct {
		was    social.Sums
		s      api.Scheme
		wanted api.Cents
	}{
		{social.Sums{}, scheme("a", 700000), 700000},
		{social.Sums{}, scheme("a", 0), most},
		{social.Sums{}, scheme("a", most), most},
		{social.Sums{}, api.Scheme{Code: "a", Ceiling: 1}, 1},
		{social.Sums{Base: 900, Insured: 500}, scheme("a", 800), 300},
		{social.Sums{Base: -900, Insured: 500}, scheme("a", 800), 300}, // the base doesn't count
		{social.Sums{Insured: 799}, scheme("a", 800), 1},
		{social.Sums{Insured: 800}, scheme("a", 800), 0},
		{social.Sums{Insured: 801}, scheme("a", 800), 0},
		{social.Sums{Insured: most}, scheme("a", 1), 0},
		{social.Sums{Insured: most}, scheme("a", 0), 0},
		{social.Sums{Insured: most - 1}, scheme("a", 0), 1},
		{social.Sums{Worker: most, Firm: most}, scheme("a", 800), 800},
	} {
		check(t, fmt.Sprint("room of ", x.was, " by ", x.s), social.Room(x.was, x.s), x.wanted)
	}
	r := rand.New(rand.NewSource(2331))
	for range 30000 {
		was, s := someSums(r), someScheme(r)
		check(t, fmt.Sprint("room of ", was, " by ", s), social.Room(was, s), roomByWords(was, s))
	}
}

// TestP23_4: in a year is insured what was the greatest base to date, within the ceiling, and nothing is given back.
func TestP23_4(t *testing.T) {
	r := rand.New(rand.NewSource(2341))
	for range 3000 {
		s := api.Scheme{Code: "a", Worker: rightRate(r), Firm: rightRate(r), Ceiling: api.Cents(r.Intn(3) * r.Intn(20000))}
		var now social.Sums
		var base, greatest api.Cents
		for range 1 + r.Intn(15) {
			more := api.Cents(r.Intn(5000) - 1500)
			behind, e := social.Step(now, s, more)
			check(t, "error", e, api.OK)
			check(t, "nothing is given back", behind.Insured >= now.Insured && behind.Worker >= now.Worker && behind.Firm >= now.Firm, true)
			check(t, "no more than there is room for", behind.Insured-now.Insured <= social.Room(now, s), true)
			base += more
			greatest = max(greatest, base)
			now = behind
			check(t, "base", now.Base, base)
			wanted := greatest
			if s.Ceiling != 0 {
				wanted = min(wanted, s.Ceiling)
			}
			check(t, fmt.Sprint("insured by ", s), now.Insured, wanted)
		}
	}
}

// TestP23_4Apart: schemes don't touch each other: all together come to what each comes to by itself.
func TestP23_4Apart(t *testing.T) {
	r := rand.New(rand.NewSource(2342))
	for range 500 {
		var l []api.Scheme
		for i := range 1 + r.Intn(5) {
			l = append(l, api.Scheme{Code: string(rune('a' + i)), Worker: rightRate(r), Firm: rightRate(r), Ceiling: api.Cents(r.Intn(20000))})
		}
		now := map[string]social.Sums{}
		alone := make([]social.Sums, len(l))
		for range 1 + r.Intn(12) {
			base := api.Cents(r.Intn(5000) - 1000)
			behind, workers, firms, e := social.All(now, base, l...)
			check(t, "error", e, api.OK)
			var wantedWorkers, wantedFirms []api.Item
			for i, s := range l {
				was := alone[i]
				alone[i], e = social.Step(was, s, base)
				check(t, "error", e, api.OK)
				check(t, "sums of "+s.Code, behind[s.Code], alone[i])
				if c := alone[i].Worker - was.Worker; c != 0 {
					wantedWorkers = append(wantedWorkers, api.Item{Code: s.Code, Cents: c})
				}
				if c := alone[i].Firm - was.Firm; c != 0 {
					wantedFirms = append(wantedFirms, api.Item{Code: s.Code, Cents: c})
				}
			}
			check(t, "workers", slices.Equal(workers, wantedWorkers), true)
			check(t, "firms", slices.Equal(firms, wantedFirms), true)
			now = behind
		}
	}
}

// TestMemory: what is handed in stays as it was, spare room included, also where a later scheme is refused; what is answered is new.
func TestMemory(t *testing.T) {
	was := map[string]social.Sums{"a": {Base: 5, Insured: 5, Worker: 1, Firm: 1}, "else": {Base: 7}}
	keptWas := maps.Clone(was)
	l := []api.Scheme{scheme("a", 0), scheme("b", 0), scheme("", 0)}
	kept := slices.Clone(l)
	now, workers, firms, e := social.All(was, 100, l[:2]...)
	check(t, "error", e, api.OK)
	again, moreWorkers, moreFirms, _ := social.All(was, 100, l[:2]...)
	_, _, _, e = social.All(was, 100, l...)
	check(t, "error of the last one", e, api.ErrName)
	check(t, "sums that were handed in", maps.Equal(was, keptWas), true)
	check(t, "schemes that were handed in", slices.Equal(l, kept), true)
	now["a"], now["new"] = social.Sums{}, social.Sums{}
	delete(now, "else")
	workers[0].Cents, firms[0].Cents = 0, 0
	_ = append(workers[:1], api.Item{})
	_ = append(firms[:1], api.Item{})
	check(t, "sums that were handed in, still", maps.Equal(was, keptWas), true)
	check(t, "sums that were told twice", len(again), 3)
	check(t, "items that were told twice", fmt.Sprint(moreWorkers, moreFirms), "[{a 10} {b 10}] [{a 12} {b 12}]")
	same, _, _, _ := social.All(was, 100)
	same["a"] = social.Sums{}
	check(t, "sums without a scheme are new, too", maps.Equal(was, keptWas), true)
}
