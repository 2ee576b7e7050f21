// Package cents is layer 1: money, in whole cents. See shared/doc/01-cents.md.
package cents

import (
	"strconv"
	"strings"

	"wagebook/api"
)

// Fits tells whether an amount is within the limits.
func Fits(c api.Cents) bool {
	return -api.MaxCents <= c && c <= api.MaxCents
}

// Add is a with b.
func Add(a, b api.Cents) (api.Cents, api.Errno) {
	if !Fits(a) || !Fits(b) {
		return 0, api.ErrRange
	}
	return within(a + b)
}

// Sub is a without b.
func Sub(a, b api.Cents) (api.Cents, api.Errno) {
	if !Fits(a) || !Fits(b) {
		return 0, api.ErrRange
	}
	return within(a - b)
}

// within hands on what was reckoned of amounts that fit: that can't have wrapped round, but it may be beyond the limits.
func within(c api.Cents) (api.Cents, api.Errno) {
	if !Fits(c) {
		return 0, api.ErrOverflow
	}
	return c, api.OK
}

// Sum adds amounts one by one: a sum on the way that is beyond the limits is an error, even if a later amount would bring it back.
func Sum(l ...api.Cents) (api.Cents, api.Errno) {
	var sum api.Cents
	for _, c := range l {
		next, e := Add(sum, c)
		if e != api.OK {
			return 0, e
		}
		sum = next
	}
	return sum, api.OK
}

// Least is the lesser of any two amounts.
func Least(a, b api.Cents) api.Cents {
	return min(a, b)
}

// Greatest is the greater of any two amounts.
func Greatest(a, b api.Cents) api.Cents {
	return max(a, b)
}

// Clamp brings an amount between two others; where these are the wrong way round the least one wins.
func Clamp(c, least, most api.Cents) api.Cents {
	return Greatest(least, Least(c, most))
}

// Text is an amount's text, or nothing if it doesn't fit.
func Text(c api.Cents) string {
	if !Fits(c) {
		return ""
	}
	sign := ""
	if c < 0 {
		sign, c = "-", -c
	}
	text := []byte(sign)
	text = strconv.AppendInt(text, int64(c/100), 10)
	text = append(text, '.', byte('0'+c/10%10), byte('0'+c%10))
	return string(text)
}

// Parse reads back what Text tells, and nothing else.
func Parse(s string) (api.Cents, api.Errno) {
	digits, below := strings.CutPrefix(s, "-")
	point := len(digits) - len(".00")
	if point < 1 || digits[point] != '.' || point > 1 && digits[0] == '0' {
		return 0, api.ErrForm
	}
	var c api.Cents
	for i := 0; i < len(digits); i++ {
		if i == point {
			continue
		}
		if digits[i] < '0' || digits[i] > '9' {
			return 0, api.ErrForm
		}
		c = c*10 + api.Cents(digits[i]-'0')
		if !Fits(c) { // no amount has this text; and the next digit might wrap round
			return 0, api.ErrForm
		}
	}
	if !below {
		return c, api.OK
	}
	if c == 0 {
		return 0, api.ErrForm
	}
	return -c, api.OK
}
