// Package word reads the words that the texts of several layers are made of: numbers in tens, and names.
package word

import (
	"strconv"

	"wagebook/api"
)

// Number is the number whose text in tens s is, without needless noughts: ErrForm of what is no such text, ErrRange of a number above most, of however many digits.
func Number(s string, most uint64) (uint64, api.Errno) {
	if !isDigits(s) || s[0] == '0' && s != "0" {
		return 0, api.ErrForm
	}
	n, err := strconv.ParseUint(s, 10, 64)
	if err != nil || n > most { // of digits alone there is no other error than that they are too many
		return 0, api.ErrRange
	}
	return n, api.OK
}

// IsName tells whether s is a name, as chapter 8 says: a - alone is none, as it stands for no name in a line.
func IsName(s string) bool {
	if s == "" || len(s) > api.MaxName || s == "-" {
		return false
	}
	for i := 0; i < len(s); i++ {
		if !isNameByte(s[i]) {
			return false
		}
	}
	return true
}

// isNameByte tells whether a name may have the byte.
func isNameByte(b byte) bool {
	return 'a' <= b && b <= 'z' || isDigit(b) || b == '.' || b == '_' || b == '-'
}

// isDigits tells whether s is made of digits, one at least.
func isDigits(s string) bool {
	for i := 0; i < len(s); i++ {
		if !isDigit(s[i]) {
			return false
		}
	}
	return s != ""
}

// isDigit tells whether the byte is a digit.
func isDigit(b byte) bool {
	return '0' <= b && b <= '9'
}
