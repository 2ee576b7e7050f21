package slip_test

import (
	"fmt"
	"math"
	"math/big"
	"math/rand"
	"regexp"
	"slices"
	"strconv"
	"strings"
	"testing"

	"wagebook/api"
	"wagebook/slip"
)

const (
	most    = api.Cents(1) << 50
	lowest  = math.MinInt64
	highest = math.MaxInt64
)

// check fails the test, if something is another thing than was wanted.
func check[T comparable](t *testing.T, what string, got, wanted T) {
	t.Helper()
	if got != wanted {
		t.Errorf("%s: %v, wanted %v", what, got, wanted)
	}
}

// checkSame fails the test, if a slip is another one than was wanted.
func checkSame(t *testing.T, what string, got, wanted api.Slip) {
	t.Helper()
	if got.Year != wanted.Year || got.Index != wanted.Index || !slices.Equal(got.Lines, wanted.Lines) {
		t.Errorf("%s: %v, wanted %v", what, got, wanted)
	}
}

// of is a slip of 2024/02 of these parts, codes and amounts, by turns.
func of(l ...any) api.Slip {
	return api.Slip{Year: 2024, Index: 2, Lines: lines(l...)}
}

// lines are some of these parts, codes and amounts, by turns.
func lines(l ...any) []api.Line {
	var told []api.Line
	for i := 0; i < len(l); i += 3 {
		told = append(told, api.Line{Part: l[i].(int), Code: l[i+1].(string), Cents: api.Cents(l[i+2].(int))})
	}
	return told
}

// numbered is a slip of so many lines of a cent, spread over all parts.
func numbered(n int) api.Slip {
	s := of()
	for i := range n {
		s.Lines = append(s.Lines, api.Line{Part: i * 7 / n, Code: fmt.Sprintf("n%03d", i), Cents: 1})
	}
	return s
}

// partWords are the parts' words, as the chapter tells them.
func partWords() []string {
	return strings.Split("gross, before, worker, tax, after, orders, firm", ", ")
}

// isName is as the chapter says of a Code.
func isName(s string) bool {
	return len(s) >= 1 && len(s) <= 32 && s != "-" && strings.Trim(s, "abcdefghijklmnopqrstuvwxyz0123456789._-") == ""
}

// isBetween tells whether a number is from one to another.
func isBetween(n, least, greatest int64) bool { return least <= n && n <= greatest }

// isBehind tells whether a line stands behind another one: by parts, then by codes, byte by byte.
func isBehind(a, b api.Line) bool {
	if a.Part != b.Part {
		return a.Part > b.Part
	}
	return slices.Compare([]byte(a.Code), []byte(b.Code)) > 0
}

// checkByWords is what Check is to tell.
func checkByWords(s api.Slip) api.Errno {
	if !isBetween(int64(s.Year), 1900, 2199) || !isBetween(int64(s.Index), 1, 400) {
		return api.ErrRange
	}
	if len(s.Lines) > 448 {
		return api.ErrMany
	}
	for i, l := range s.Lines {
		if !isBetween(int64(l.Part), 0, 6) {
			return api.ErrKind
		}
		if !isName(l.Code) {
			return api.ErrName
		}
		if l.Cents == 0 {
			return api.ErrZero
		}
		if !isBetween(int64(l.Cents), -1<<50, 1<<50) {
			return api.ErrOverflow
		}
		if i > 0 && s.Lines[i-1].Part == l.Part && s.Lines[i-1].Code == l.Code {
			return api.ErrTwice
		}
		if i > 0 && !isBehind(l, s.Lines[i-1]) {
			return api.ErrOrder
		}
	}
	return api.OK
}

// sumOf is what the lines of some parts come to, reckoned without a limit.
func sumOf(s api.Slip, parts ...int) *big.Int {
	sum := new(big.Int)
	for _, l := range s.Lines {
		if slices.Contains(parts, l.Part) {
			sum.Add(sum, big.NewInt(int64(l.Cents)))
		}
	}
	return sum
}

// amounts are whole numbers as cents, if all of them fit.
func amounts(l ...*big.Int) ([]api.Cents, bool) {
	var told []api.Cents
	for _, n := range l {
		if n.CmpAbs(big.NewInt(1<<50)) > 0 {
			return make([]api.Cents, len(l)), false
		}
		told = append(told, api.Cents(n.Int64()))
	}
	return told, true
}

// sumsByWords is what Sums is to tell.
func sumsByWords(s api.Slip) ([]api.Cents, api.Errno) {
	if e := checkByWords(s); e != api.OK {
		return make([]api.Cents, 4), e
	}
	gross, held := sumOf(s, 0), sumOf(s, 1, 2, 3, 4, 5)
	l, ok := amounts(gross, held, new(big.Int).Sub(gross, held), sumOf(s, 6))
	if !ok {
		return l, api.ErrOverflow
	}
	return l, api.OK
}

// money is an amount's text, as layer 1 says.
func money(c api.Cents) string {
	sign := ""
	if c < 0 {
		sign, c = "-", -c
	}
	return fmt.Sprintf("%s%d.%02d", sign, c/100, c%100)
}

// textByWords is what Text is to tell of a right slip.
func textByWords(s api.Slip) string {
	t := fmt.Sprintf("slip %d/%02d\n", s.Year, s.Index)
	for _, l := range s.Lines {
		t += fmt.Sprintln(partWords()[l.Part], l.Code, money(l.Cents))
	}
	return t
}

var (
	headForm = regexp.MustCompile(`^slip (0|[1-9][0-9]{0,6})/([0-9]{2}|[1-9][0-9]{2,6})\n$`)
	lineForm = regexp.MustCompile(`^(gross|before|worker|tax|after|orders|firm) ([^ \n]+) (-?(?:0|[1-9][0-9]*)\.[0-9]{2})\n$`)
)

// parseByWords is what Parse is to tell.
func parseByWords(t string) (api.Slip, api.Errno) {
	if t == "" {
		return api.Slip{}, api.ErrEmpty
	}
	var s api.Slip
	for i, l := range slices.Collect(strings.Lines(t)) { // each with its line feed, if it has one
		if i == 0 {
			head := headForm.FindStringSubmatch(l)
			if head == nil {
				return api.Slip{}, api.ErrForm
			}
			s.Year, _ = strconv.Atoi(head[1])
			s.Index, _ = strconv.Atoi(head[2])
			continue
		}
		fields := lineForm.FindStringSubmatch(l)
		if fields == nil || fields[3] == "-0.00" {
			return api.Slip{}, api.ErrForm
		}
		n, _ := new(big.Int).SetString(strings.Replace(fields[3], ".", "", 1), 10)
		c, ok := amounts(n)
		if !ok {
			return api.Slip{}, api.ErrForm
		}
		s.Lines = append(s.Lines, api.Line{Part: slices.Index(partWords(), fields[1]), Code: fields[2], Cents: c[0]})
	}
	if e := checkByWords(s); e != api.OK {
		return api.Slip{}, e
	}
	return s, api.OK
}

// whyByWords is what Why is to tell.
func whyByWords(s api.Slip, part int) string {
	sum, ok := amounts(sumOf(s, part))
	if checkByWords(s) != api.OK || !isBetween(int64(part), 0, 6) || !ok {
		return ""
	}
	t := ""
	for _, l := range s.Lines {
		if l.Part == part {
			t += fmt.Sprintln(l.Code, money(l.Cents))
		}
	}
	return t + fmt.Sprintln("=", money(sum[0]))
}

// mergeByWords is what Merge is to tell: each line put among those that rise, or onto the one of its part and code.
func mergeByWords(a, b api.Slip) (api.Slip, api.Errno) {
	for _, s := range []api.Slip{a, b} {
		if e := checkByWords(s); e != api.OK {
			return api.Slip{}, e
		}
	}
	if a.Year != b.Year || a.Index != b.Index {
		return api.Slip{}, api.ErrState
	}
	m := api.Slip{Year: a.Year, Index: a.Index, Lines: slices.Clone(a.Lines)}
	for _, l := range b.Lines {
		place := 0
		for place < len(m.Lines) && isBehind(l, m.Lines[place]) {
			place++
		}
		if place < len(m.Lines) && !isBehind(m.Lines[place], l) {
			m.Lines[place].Cents += l.Cents
		} else {
			m.Lines = slices.Insert(m.Lines, place, l)
		}
	}
	for _, l := range m.Lines {
		if !isBetween(int64(l.Cents), -1<<50, 1<<50) {
			return api.Slip{}, api.ErrOverflow
		}
	}
	m.Lines = slices.DeleteFunc(m.Lines, func(l api.Line) bool { return l.Cents == 0 })
	if len(m.Lines) > 448 {
		return api.Slip{}, api.ErrMany
	}
	return m, api.OK
}

// someCents is an amount that isn't 0, below so many bits.
func someCents(r *rand.Rand, bits int) api.Cents {
	c := 1 + api.Cents(r.Int63n(1<<(1+r.Intn(bits))))
	if r.Intn(3) == 0 {
		return -c
	}
	return c
}

// someCode is one of some.
func someCode(r *rand.Rand) string {
	return []string{"a", "b", "aa", "a-", "a.", "a_", "a0", "b0", "c", "--", "-a", ".", "_", "0", strings.Repeat("z", 32)}[r.Intn(15)]
}

// someSlip is a right one of one of few periods, of up to so many lines.
func someSlip(r *rand.Rand, bits, n int) api.Slip {
	s := api.Slip{Year: 2024, Index: 7}
	for range r.Intn(n + 1) {
		s.Lines = append(s.Lines, api.Line{Part: r.Intn(7), Code: someCode(r), Cents: someCents(r, bits)})
	}
	slices.SortFunc(s.Lines, func(a, b api.Line) int {
		switch {
		case isBehind(a, b):
			return 1
		case isBehind(b, a):
			return -1
		}
		return 0
	})
	s.Lines = slices.CompactFunc(s.Lines, func(a, b api.Line) bool { return !isBehind(a, b) && !isBehind(b, a) })
	return s
}

// spoil makes something of a slip another thing, mostly a wrong one.
func spoil(r *rand.Rand, s api.Slip) api.Slip {
	s.Lines = slices.Clone(s.Lines)
	if len(s.Lines) == 0 || r.Intn(6) == 0 {
		s.Year = []int{1899, 1900, 2199, 2200, 0, -1, lowest, highest, 2024}[r.Intn(9)]
		s.Index = []int{0, 1, 9, 10, 99, 100, 400, 401, -1, lowest, highest}[r.Intn(11)]
		return s
	}
	i, j := r.Intn(len(s.Lines)), r.Intn(len(s.Lines))
	switch l := &s.Lines[i]; r.Intn(6) {
	case 0:
		l.Part = []int{-1, 7, 6, 0, lowest, highest}[r.Intn(6)]
	case 1:
		l.Code = []string{"", "-", "A", "a b", "a:", "\xff", "a\n", strings.Repeat("x", 32), strings.Repeat("x", 33)}[r.Intn(9)]
	case 2:
		l.Cents = []api.Cents{0, most, most + 1, -most, -most - 1, lowest, highest}[r.Intn(7)]
	case 3:
		s.Lines[i], s.Lines[j] = s.Lines[j], s.Lines[i]
	case 4:
		s.Lines = slices.Insert(s.Lines, j, *l)
	case 5:
		l.Code = someCode(r)
	}
	return s
}

// spoilText makes something of a slip's text another thing: a byte, a whole line, or nothing.
func spoilText(r *rand.Rand, text string) string {
	b := []byte(text)
	i, j := r.Intn(len(b)), r.Intn(len(b))
	l := slices.Collect(strings.Lines(text))
	k, n := r.Intn(len(l)), r.Intn(len(l))
	switch r.Intn(7) {
	case 0:
		b[i] = " \n/-.0123456789agsltx\xff"[r.Intn(22)]
	case 1:
		b[i], b[j] = b[j], b[i]
	case 2:
		b = slices.Insert(b, i, b[j])
	case 3:
		b = slices.Delete(b, i, i+1)
	case 4:
		l[k], l[n] = l[n], l[k]
		b = []byte(strings.Join(l, ""))
	case 5:
		b = []byte(strings.Join(slices.Insert(l, k, l[n]), ""))
	}
	return string(b)
}

// nameOf is how a slip stands in a failed test's message.
func nameOf(s api.Slip) string {
	return fmt.Sprintf("%.400q", fmt.Sprint(s))
}

// sums are Sums' amounts in a list.
func sums(s api.Slip) ([]api.Cents, api.Errno) {
	gross, held, net, firm, e := slip.Sums(s)
	return []api.Cents{gross, held, net, firm}, e
}
