// Package rate is layer 2: a part of an amount, rounded once. See shared/doc/02-rate.md.
package rate

import (
	"strconv"
	"strings"

	"wagebook/api"
	"wagebook/cents"
)

// The modes of rounding: towards 0; to the nearest, a half away from 0; to the nearest, a half to the even one; away from 0; to what isn't above.
const (
	Down  = 0
	Half  = 1
	Even  = 2
	Up    = 3
	Floor = 4
)

// One is the whole, as a rate.
const One api.Rate = 1000000

// hundredth is one percent, as a rate; its four noughts are the digits behind a text's point.
const (
	hundredth  = 10000
	mostDigits = 4
)

// Of is the part r of c.
func Of(c api.Cents, r api.Rate, mode int) (api.Cents, api.Errno) {
	if !right(r) { // an amount that isn't right has the same error, which Part tells
		return 0, api.ErrRange
	}
	return Part(c, int64(r), int64(One), mode)
}

// Part is the part num / den of c.
func Part(c api.Cents, num, den int64, mode int) (api.Cents, api.Errno) {
	if !cents.Fits(c) {
		return 0, api.ErrRange
	}
	if den == 0 {
		return 0, api.ErrZero
	}
	if den < 0 {
		return 0, api.ErrRange
	}
	if mode < Down || mode > Floor {
		return 0, api.ErrKind
	}
	part, ok := portion(int64(c), num, den, mode, api.MaxCents)
	if !ok {
		return 0, api.ErrOverflow
	}
	return api.Cents(part), api.OK
}

// Times is the rate a of the rate b.
func Times(a, b api.Rate) (api.Rate, api.Errno) {
	if !right(a) || !right(b) {
		return 0, api.ErrRange
	}
	product, ok := portion(int64(a), int64(b), int64(One), Half, api.MaxRate)
	if !ok {
		return 0, api.ErrOverflow
	}
	return api.Rate(product), api.OK
}

// right tells whether a rate is within the limits.
func right(r api.Rate) bool {
	return -api.MaxRate <= r && r <= api.MaxRate
}

// Text is a rate's text, or nothing if the rate isn't right.
func Text(r api.Rate) string {
	if !right(r) {
		return ""
	}
	sign := ""
	if r < 0 {
		sign, r = "-", -r
	}
	text := sign + strconv.FormatInt(int64(r/hundredth), 10)
	if fraction := r % hundredth; fraction != 0 {
		digits := strconv.FormatInt(int64(hundredth+fraction), 10)[1:] // the 1 ahead keeps the noughts behind the point
		text += "." + strings.TrimRight(digits, "0")
	}
	return text + "%"
}

// Parse reads back what Text tells; what only looks like it, but is beyond the limits, has an error of its own.
func Parse(s string) (api.Rate, api.Errno) {
	if s == "" {
		return 0, api.ErrEmpty
	}
	number, ended := strings.CutSuffix(s, "%")
	number, below := strings.CutPrefix(number, "-")
	whole, fraction, pointed := strings.Cut(number, ".")
	if !ended || !isWhole(whole) || pointed && !isFraction(fraction) || below && number == "0" {
		return 0, api.ErrForm
	}
	r := read(0, whole)
	r = read(r, fraction)
	r = read(r, "0000"[len(fraction):])
	if !right(r) {
		return 0, api.ErrRange
	}
	if below {
		r = -r
	}
	return r, api.OK
}

// isWhole tells whether s is a number in tens without needless noughts.
func isWhole(s string) bool {
	return s == "0" || isDigits(s) && s[0] != '0'
}

// isFraction tells whether s may stand behind a text's point.
func isFraction(s string) bool {
	return len(s) <= mostDigits && isDigits(s) && s[len(s)-1] != '0'
}

// isDigits tells whether s is made of digits, one at least.
func isDigits(s string) bool {
	for i := 0; i < len(s); i++ {
		if s[i] < '0' || s[i] > '9' {
			return false
		}
	}
	return s != ""
}

// read puts digits behind those of r. Once beyond the limits it stays there, so that no number of digits wraps round.
func read(r api.Rate, digits string) api.Rate {
	for i := 0; i < len(digits) && right(r); i++ {
		r = r*10 + api.Rate(digits[i]-'0')
	}
	return r
}
