package lex_test

import (
	"fmt"
	"math/big"
	"math/rand"
	"regexp"
	"slices"
	"strings"
	"testing"

	"wagebook/api"
	"wagebook/lex"
)

// check fails the test, if something is another thing than was wanted.
func check[T comparable](t *testing.T, what string, got, wanted T) {
	t.Helper()
	if got != wanted {
		t.Errorf("%s: %v, wanted %v", what, got, wanted)
	}
}

// name, number, sign and end are tokens.
func name(s string, at int) lex.Token   { return lex.Token{Kind: lex.Name, Text: s, At: at} }
func number(s string, at int) lex.Token { return lex.Token{Kind: lex.Number, Text: s, At: at} }
func sign(s string, at int) lex.Token   { return lex.Token{Kind: lex.Sign, Text: s, At: at} }
func end(at int) lex.Token              { return lex.Token{Kind: lex.End, At: at} }

// checkTokens fails the test, if a formula's tokens are others than were wanted.
func checkTokens(t *testing.T, s string, wanted ...lex.Token) {
	t.Helper()
	l, at, e := lex.All(s)
	check(t, fmt.Sprintf("error of %.80q", s), e, api.OK)
	check(t, fmt.Sprintf("place of %.80q", s), at, 0)
	if !slices.Equal(l, wanted) {
		t.Errorf("tokens of %.80q: %.300s, wanted %.300s", s, fmt.Sprint(l), fmt.Sprint(wanted))
	}
}

// checkWrong fails the test, if a formula is told otherwise than wrong at a place.
func checkWrong(t *testing.T, s string, place int, wanted api.Errno) {
	t.Helper()
	l, at, e := lex.All(s)
	check(t, fmt.Sprintf("error of %.80q", s), e, wanted)
	check(t, fmt.Sprintf("place of %.80q", s), at, place)
	check(t, fmt.Sprintf("how many tokens of %.80q", s), len(l), 0)
}

// words tells the tokens by regular expressions: a second reading of the chapter.
type words struct {
	named, digits, pointed *regexp.Regexp
	most                   *big.Rat
}

// reading is that of the chapter.
func reading() words {
	return words{regexp.MustCompile(`^[a-z][a-z0-9._:]*`), regexp.MustCompile(`^[0-9]+`), regexp.MustCompile(`^[0-9]+\.[0-9]*`), big.NewRat(1000000000000, 1)}
}

// all is a formula's tokens, by the words.
func (w words) all(s string) ([]lex.Token, int, api.Errno) {
	if len(s) > 4096 {
		return nil, 0, api.ErrLong
	}
	var l []lex.Token
	for at := 0; at < len(s); {
		rest := s[at:]
		if rest[0] == ' ' {
			at++
			continue
		}
		token := lex.Token{Kind: lex.Sign, Text: rest[:1], At: at}
		switch {
		case w.named.MatchString(rest):
			token = name(w.named.FindString(rest), at)
			if len(token.Text) > 32 {
				return nil, at, api.ErrLong
			}
		case w.digits.MatchString(rest):
			text, place, e := w.number(rest)
			if e != api.OK {
				return nil, at + place, e
			}
			token = number(text, at)
		case !strings.Contains("+ - * ( ) , < =", rest[:1]):
			return nil, at, api.ErrForm
		}
		l = append(l, token)
		at += len(token.Text)
	}
	return append(l, end(len(s))), 0, api.OK
}

// number is the number that a text begins with, or the place in it of what is wrong with that.
func (w words) number(s string) (string, int, api.Errno) {
	text := w.digits.FindString(s)
	point := len(text)
	if pointed := w.pointed.FindString(s); pointed != "" {
		text = pointed
		if len(text) == point+1 {
			return "", point, api.ErrForm
		}
		if len(text) > point+5 {
			return "", point + 5, api.ErrForm
		}
	}
	if said, _ := new(big.Rat).SetString(text); said.Cmp(w.most) > 0 {
		return "", 0, api.ErrRange
	}
	return text, 0, api.OK
}

// numberOf is what a number says, by the words.
func (w words) numberOf(s string) (int64, api.Errno) {
	if !regexp.MustCompile(`^[0-9]+(\.[0-9]{1,4})?$`).MatchString(s) {
		return 0, api.ErrForm
	}
	said, _ := new(big.Rat).SetString(s)
	if said.Cmp(w.most) > 0 {
		return 0, api.ErrRange
	}
	return said.Mul(said, big.NewRat(1000000, 1)).Num().Int64(), api.OK
}

// pieces are what formulas are put together of.
func pieces() []string {
	return []string{" ", "  ", "a", "z", "least", "x_1:y", "a.b", "_", ":", ".", "0", "00", "7", "12.5", "1000000000000", "1000000000001", ".0001", ".12345", "+", "-", "*", "(", ")", ",", "<", "=", strings.Repeat("n", 31), "A", "\t", "/", ">", "{", "`", "\u00e4", "\x00", "'"}
}

// someFormula is a few of the pieces; mostly right ones.
func someFormula(r *rand.Rand) string {
	l := pieces()
	if r.Intn(3) > 0 {
		l = l[:27]
	}
	var b strings.Builder
	for range r.Intn(9) {
		b.WriteString(l[r.Intn(len(l))])
	}
	return b.String()
}

func TestP12_1All(t *testing.T) {
	checkTokens(t, "rate*0.5", name("rate", 0), sign("*", 4), number("0.5", 5), end(8))
	checkTokens(t, "", end(0))
	checkTokens(t, "   ", end(3))
	checkTokens(t, "2a", number("2", 0), name("a", 1), end(2))
	checkTokens(t, "a2", name("a2", 0), end(2))
	checkTokens(t, "  least( a.b ,2.50 )-x_1:y ", name("least", 2), sign("(", 7), name("a.b", 9), sign(",", 13), number("2.50", 14), sign(")", 19), sign("-", 20), name("x_1:y", 21), end(27))
	checkTokens(t, "+-*(),<=", sign("+", 0), sign("-", 1), sign("*", 2), sign("(", 3), sign(")", 4), sign(",", 5), sign("<", 6), sign("=", 7), end(8))
	checkTokens(t, "<==-1", sign("<", 0), sign("=", 1), sign("=", 2), sign("-", 3), number("1", 4), end(5))
	checkTokens(t, "a b  c", name("a", 0), name("b", 2), name("c", 5), end(6))
	checkTokens(t, "1 2", number("1", 0), number("2", 2), end(3))
	checkTokens(t, "a..b:_. 1.5x.", name("a..b:_.", 0), number("1.5", 8), name("x.", 11), end(13))
	checkTokens(t, "1.2345a", number("1.2345", 0), name("a", 6), end(7))
	checkTokens(t, "z9_", name("z9_", 0), end(3))
}

// TestP12_1Noughts: noughts ahead of other digits, and at the end behind a point, are right.
func TestP12_1Noughts(t *testing.T) {
	zeros := strings.Repeat("0", 4096)
	checkTokens(t, "007 00.50 0 000 0.0000", number("007", 0), number("00.50", 4), number("0", 10), number("000", 12), number("0.0000", 16), end(22))
	checkTokens(t, zeros, number(zeros, 0), end(4096))
	checkTokens(t, zeros[:4000]+"1000000000000.0000", number(zeros[:4000]+"1000000000000.0000", 0), end(4018))
}

func TestP12_1Long(t *testing.T) {
	longest := strings.Repeat("n", 32)
	checkTokens(t, longest, name(longest, 0), end(32))
	checkTokens(t, " "+longest+"+"+longest, name(longest, 1), sign("+", 33), name(longest, 34), end(66))
	for _, more := range []string{"n", "0", ".", "_", ":", "n0._:"} {
		checkWrong(t, longest+more, 0, api.ErrLong)
		checkWrong(t, "1 + "+longest+more+"?", 4, api.ErrLong)
	}
	checkWrong(t, "? "+longest+"n", 0, api.ErrForm)
	checkTokens(t, longest+"-n", name(longest, 0), sign("-", 32), name("n", 33), end(34)) // a - parts names
}

func TestP12_1TooLong(t *testing.T) {
	full := strings.Repeat("a+", 2048)
	l, at, e := lex.All(full)
	check(t, "error of 4096 bytes", e, api.OK)
	check(t, "place of 4096 bytes", at, 0)
	check(t, "how many tokens", len(l), 4097)
	checkTokens(t, strings.Repeat(" ", 4096), end(4096))
	checkTokens(t, strings.Repeat(" ", 4095)+"a", name("a", 4095), end(4096))
	for _, s := range []string{full + "a", full + " ", strings.Repeat(" ", 4097), "?" + full, strings.Repeat("n", 4097), strings.Repeat("9", 5000), "1." + full} {
		checkWrong(t, s, 0, api.ErrLong)
	}
	checkWrong(t, strings.Repeat(" ", 4095)+"?", 4095, api.ErrForm)
	checkWrong(t, strings.Repeat("n", 4096), 0, api.ErrLong)
	checkWrong(t, strings.Repeat("9", 4096), 0, api.ErrRange)
}

func TestP12_1Numbers(t *testing.T) {
	checkWrong(t, "a + 1.", 5, api.ErrForm)
	for s, at := range map[string]int{
		"1.": 1, "1.a": 1, "1. 5": 1, "1..5": 1, "12.+": 2, "1.5 + 2.)": 7, "99999999999999.": 14, "1.2.": 3,
		"1.23456": 6, "1.00000": 6, "0.123456789": 6, "  12.34567": 9, "99999999999999.12345": 19, "1.23456.": 6, "a-1.23450": 8,
		"1.5.5": 3, ".5": 0, "1 .5": 2,
	} {
		checkWrong(t, s, at, api.ErrForm)
	}
	for s, at := range map[string]int{"1000000000001": 0, "1000000000000.0001": 0, "a+ 9999999999999": 3, "1 0001000000000001": 2, "99999999999999999999999.9": 0, "5000000000000?": 0, "9223372036854775808": 0} {
		checkWrong(t, s, at, api.ErrRange)
	}
	for _, s := range []string{"1000000000000", "1000000000000.0", "1000000000000.0000", "999999999999.9999", "0001000000000000"} {
		checkTokens(t, s, number(s, 0), end(len(s)))
	}
}

// TestP12_1Bytes: each byte that begins nothing is told where it stands.
func TestP12_1Bytes(t *testing.T) {
	for b := range 256 {
		s := "1+" + string([]byte{byte(b)})
		switch {
		case b == ' ':
			checkTokens(t, s, number("1", 0), sign("+", 1), end(3))
		case 'a' <= b && b <= 'z':
			checkTokens(t, s, number("1", 0), sign("+", 1), name(s[2:], 2), end(3))
		case '0' <= b && b <= '9':
			checkTokens(t, s, number("1", 0), sign("+", 1), number(s[2:], 2), end(3))
		case slices.Contains([]byte{'+', '-', '*', '(', ')', ',', '<', '='}, byte(b)):
			checkTokens(t, s, number("1", 0), sign("+", 1), sign(s[2:], 2), end(3))
		default:
			checkWrong(t, s, 2, api.ErrForm)
			checkWrong(t, s+"?1.23456", 2, api.ErrForm)
		}
	}
}

// TestP12_1First: of several faults the leftmost one is told.
func TestP12_1First(t *testing.T) {
	long := strings.Repeat("n", 33)
	checkWrong(t, "? "+long+" 1. 9999999999999", 0, api.ErrForm)
	checkWrong(t, long+" ? 1. 9999999999999", 0, api.ErrLong)
	checkWrong(t, "1. ? "+long, 1, api.ErrForm)
	checkWrong(t, "9999999999999 1. ?", 0, api.ErrRange)
	checkWrong(t, "9999999999999.", 13, api.ErrForm)
	checkWrong(t, "9999999999999.00000", 18, api.ErrForm)
}

func TestP12_2IsName(t *testing.T) {
	for s, wanted := range map[string]bool{
		"a": true, "z": true, "least": true, "a.b": true, "x_1:y": true, "a.": true, "a:": true, "a_": true, "a0": true, "rule:social.age_1": true,
		strings.Repeat("a", 32): true, strings.Repeat("a", 33): false, strings.Repeat("a", 5000): false, "a" + strings.Repeat(".", 31): true, "a" + strings.Repeat(":", 32): false,
		"": false, " ": false, " a": false, "a ": false, "a b": false, "2x": false, "9": false, ".a": false, "_a": false, ":a": false, "A": false, "aB": false,
		"a-b": false, "a+": false, "-": false, "(": false, "a(": false, "\u00e4": false, "a\u00e4": false, "a\x00": false, "a\n": false, "1.5": false, "1.": false,
	} {
		check(t, fmt.Sprintf("IsName %.50q", s), lex.IsName(s), wanted)
	}
	for b := range 256 {
		first, behind := string([]byte{byte(b)}), string([]byte{'a', byte(b)})
		check(t, fmt.Sprintf("IsName %q", first), lex.IsName(first), strings.Contains("abcdefghijklmnopqrstuvwxyz", first))
		check(t, fmt.Sprintf("IsName %q", behind), lex.IsName(behind), strings.Contains("abcdefghijklmnopqrstuvwxyz0123456789._:", behind[1:]))
	}
}

func TestP12_2NumberOf(t *testing.T) {
	zeros := strings.Repeat("0", 9000)
	for _, x := range []struct {
		s      string
		n      int64
		wanted api.Errno
	}{
		{"12.50", 12500000, api.OK}, {"0", 0, api.OK}, {"1", 1000000, api.OK}, {"0.0001", 100, api.OK}, {"0.1", 100000, api.OK}, {"0.01", 10000, api.OK}, {"0.001", 1000, api.OK},
		{"1.0000", 1000000, api.OK}, {"007.7", 7700000, api.OK}, {"000", 0, api.OK}, {"0.0", 0, api.OK}, {"1.2345", 1234500, api.OK}, {"999999999999.9999", 999999999999999900, api.OK},
		{"1000000000000", 1000000000000000000, api.OK}, {"1000000000000.0000", 1000000000000000000, api.OK}, {zeros + "12.5", 12500000, api.OK}, {zeros + "1000000000000", 1000000000000000000, api.OK},
		{"1000000000000.0001", 0, api.ErrRange}, {"1000000000000.1", 0, api.ErrRange}, {"1000000000001", 0, api.ErrRange}, {"9223372036854.7758", 0, api.ErrRange}, {"18446744073709.5517", 0, api.ErrRange},
		{"9223372036854775808", 0, api.ErrRange}, {"18446744073709551617", 0, api.ErrRange}, {"1" + zeros, 0, api.ErrRange}, {zeros + "1000000000000.0001", 0, api.ErrRange},
		{"", 0, api.ErrForm}, {" ", 0, api.ErrForm}, {" 1", 0, api.ErrForm}, {"1 ", 0, api.ErrForm}, {"1a", 0, api.ErrForm}, {"a", 0, api.ErrForm}, {"a1", 0, api.ErrForm}, {".", 0, api.ErrForm}, {".5", 0, api.ErrForm},
		{"5.", 0, api.ErrForm}, {"1.12345", 0, api.ErrForm}, {"1.00000", 0, api.ErrForm}, {"1..5", 0, api.ErrForm}, {"1.5.5", 0, api.ErrForm}, {"-1", 0, api.ErrForm}, {"+1", 0, api.ErrForm}, {"-0", 0, api.ErrForm},
		{"1,5", 0, api.ErrForm}, {"1e5", 0, api.ErrForm}, {"0x1", 0, api.ErrForm}, {"1_0", 0, api.ErrForm}, {"1.-5", 0, api.ErrForm}, {"1.+5", 0, api.ErrForm}, {"1.5\n", 0, api.ErrForm}, {"\u0661", 0, api.ErrForm}, {"1/2", 0, api.ErrForm}, {"1:", 0, api.ErrForm},
		{"1000000000001a", 0, api.ErrForm}, {"9999999999999.", 0, api.ErrForm}, {"9999999999999.12345", 0, api.ErrForm}, {"9999999999999 9", 0, api.ErrForm}, // it is none, whatever it would say
	} {
		n, e := lex.NumberOf(x.s)
		check(t, fmt.Sprintf("NumberOf %.50q", x.s), n, x.n)
		check(t, fmt.Sprintf("error of NumberOf %.50q", x.s), e, x.wanted)
	}
}

func TestP12ByWords(t *testing.T) {
	r := rand.New(rand.NewSource(12))
	w := reading()
	right := 0
	for range 100000 {
		s := someFormula(r)
		wanted, place, e := w.all(s)
		if e != api.OK {
			checkWrong(t, s, place, e)
		} else {
			right++
			checkTokens(t, s, wanted...)
		}
		n, wrong := w.numberOf(s)
		got, e := lex.NumberOf(s)
		check(t, fmt.Sprintf("NumberOf %q", s), got, n)
		check(t, fmt.Sprintf("error of NumberOf %q", s), e, wrong)
		check(t, fmt.Sprintf("IsName %q", s), lex.IsName(s), len(s) <= 32 && regexp.MustCompile(`^[a-z][a-z0-9._:]*$`).MatchString(s))
	}
	check(t, "are enough of them right", right > 20000, true)
}

// TestP12_3Back: each Text stands at its place, with blanks alone between; all of them, with a blank between, are read as the same.
func TestP12_3Back(t *testing.T) {
	r := rand.New(rand.NewSource(123))
	for range 30000 {
		s := someFormula(r)
		l, _, e := lex.All(s)
		if e != api.OK {
			continue
		}
		var texts []string
		behind := 0
		for i, x := range l {
			check(t, fmt.Sprintf("text of token %d of %q", i, s), s[x.At:x.At+len(x.Text)], x.Text)
			check(t, fmt.Sprintf("what is ahead of token %d of %q", i, s), strings.Trim(s[behind:x.At], " "), "")
			check(t, fmt.Sprintf("is token %d of %q the end", i, s), x.Kind == lex.End, i == len(l)-1)
			check(t, fmt.Sprintf("is token %d of %q without text", i, s), x.Text == "", x.Kind == lex.End)
			behind = x.At + len(x.Text)
			texts = append(texts, x.Text)
		}
		check(t, "place of the end", behind, len(s))
		again, _, e := lex.All(strings.Join(texts, " "))
		check(t, fmt.Sprintf("error of %q, joined", s), e, api.OK)
		if !slices.EqualFunc(l, again, func(a, b lex.Token) bool { return a.Kind == b.Kind && a.Text == b.Text }) {
			t.Errorf("tokens of %q, joined: %v, wanted %v", s, again, l)
		}
	}
}

// TestMemory: what is done to an answer is seen in no other one.
func TestMemory(t *testing.T) {
	l, _, _ := lex.All("a+1")
	clear(append(l[:2], name("q", 9)))
	clear(l)
	checkTokens(t, "a+1", name("a", 0), sign("+", 1), number("1", 2), end(3))
}

// FuzzP1All: nothing panics, and all is as the words say.
func FuzzP1All(f *testing.F) {
	for _, s := range pieces() {
		f.Add(s)
	}
	w := reading()
	f.Fuzz(func(t *testing.T, s string) {
		wanted, place, e := w.all(s)
		if e != api.OK {
			checkWrong(t, s, place, e)
		} else {
			checkTokens(t, s, wanted...)
		}
		n, e := w.numberOf(s)
		got, gotE := lex.NumberOf(s)
		check(t, "NumberOf", got, n)
		check(t, "error of NumberOf", gotE, e)
	})
}
