package word_test

import (
	"fmt"
	"math"
	"strings"
	"testing"

	"wagebook/api"
	"wagebook/word"
)

// check fails the test, if something is another thing than was wanted.
func check[T comparable](t *testing.T, what string, got, wanted T) {
	t.Helper()
	if got != wanted {
		t.Errorf("%s: %v, wanted %v", what, got, wanted)
	}
}

func TestNumber(t *testing.T) {
	for _, x := range []struct {
		s      string
		most   uint64
		n      uint64
		wanted api.Errno
	}{
		{"0", 0, 0, api.OK},
		{"1", 0, 0, api.ErrRange},
		{"7", 7, 7, api.OK},
		{"8", 7, 0, api.ErrRange},
		{"1000", 1440, 1000, api.OK},
		{"18446744073709551615", math.MaxUint64, math.MaxUint64, api.OK},
		{"18446744073709551616", math.MaxUint64, 0, api.ErrRange},
		{"1" + strings.Repeat("0", 5000), math.MaxUint64, 0, api.ErrRange},
		{"", 9, 0, api.ErrForm},
		{"00", 9, 0, api.ErrForm},
		{"01", 9, 0, api.ErrForm},
		{"-1", 9, 0, api.ErrForm},
		{"+1", 9, 0, api.ErrForm},
		{" 1", 9, 0, api.ErrForm},
		{"1 ", 9, 0, api.ErrForm},
		{"1_0", 99, 0, api.ErrForm},
		{"0x1", 9, 0, api.ErrForm},
		{"1.0", 9, 0, api.ErrForm},
		{"/", 9, 0, api.ErrForm},
		{":", 9, 0, api.ErrForm},
	} {
		n, e := word.Number(x.s, x.most)
		check(t, fmt.Sprintf("Number %.30q up to %d", x.s, x.most), n, x.n)
		check(t, fmt.Sprintf("error of Number %.30q up to %d", x.s, x.most), e, x.wanted)
	}
}

func TestIsName(t *testing.T) {
	for s, wanted := range map[string]bool{
		"": false, "-": false, "--": true, "-a": true, "a-": true, "a": true, "z": true, "0": true, "9": true, ".": true, "_": true, "de.12_x-y": true,
		strings.Repeat("a", 32): true, strings.Repeat("a", 33): false, strings.Repeat("-", 32): true,
		"A": false, "aB": false, "a b": false, " a": false, "a ": false, "a:b": false, "a/b": false, "\xe4": false, "\u00e4": false, "a\n": false, "a\x00": false,
	} {
		check(t, fmt.Sprintf("IsName %q", s), word.IsName(s), wanted)
	}
	for b := range 256 {
		s := string([]byte{'a', byte(b)})
		check(t, fmt.Sprintf("IsName %q", s), word.IsName(s), strings.Contains("abcdefghijklmnopqrstuvwxyz0123456789._-", s[1:]))
	}
}
