package rate

import "math/bits"

// wide is a number of 128 bits, from 0 on: a product of two of 64 bits has room in it.
type wide struct{ hi, lo uint64 }

// multiply is a * b, exactly.
func multiply(a, b uint64) wide {
	hi, lo := bits.Mul64(a, b)
	return wide{hi, lo}
}

// divide is how often den is in w, and what is left. It is false where the first takes more than 64 bits. den is from 1 to 2^63 - 1, so that a rest has a bit to spare for the shift.
func (w wide) divide(den uint64) (quotient, rest uint64, ok bool) {
	if w.hi >= den {
		return 0, 0, false
	}
	rest = w.hi
	for range 64 {
		rest = rest<<1 | w.lo>>63
		w.lo <<= 1
		quotient <<= 1
		if rest >= den {
			rest -= den
			quotient |= 1
		}
	}
	return quotient, rest, true
}

// portion is n * num / den, rounded by the mode. It is false where that is farther from 0 than most.
func portion(n, num, den int64, mode int, most uint64) (int64, bool) {
	below := (n < 0) != (num < 0)
	quotient, rest, ok := multiply(size(n), size(num)).divide(uint64(den))
	if !ok || quotient > most { // ahead of rounding, which might wrap round
		return 0, false
	}
	if isAway(mode, below, quotient&1 == 1, rest, uint64(den)) {
		quotient++
	}
	if quotient > most {
		return 0, false
	}
	if below {
		return -int64(quotient), true
	}
	return int64(quotient), true
}

// size is a number without its sign; that of the least one, too, which has no int64 of its own.
func size(n int64) uint64 {
	if n < 0 {
		return -uint64(n)
	}
	return uint64(n)
}

// isAway tells whether a mode rounds away from 0 what has this rest behind its whole part.
func isAway(mode int, below, odd bool, rest, den uint64) bool {
	switch mode {
	case Floor:
		if !below {
			return false
		}
		fallthrough
	case Up:
		return rest > 0
	case Even:
		if !odd {
			return rest<<1 > den
		}
		fallthrough
	case Half:
		return rest<<1 >= den
	}
	return false
}
