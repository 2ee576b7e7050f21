package year

import (
	"maps"
	"slices"
	"strconv"
	"strings"

	"wagebook/api"
	"wagebook/cents"
	"wagebook/social"
	"wagebook/tax"
)

// Text is all that a state has: where it stands, and the sums that aren't 0; nothing, if there was no Month.
func (s State) Text() string {
	if s.of == 0 {
		return ""
	}
	var t strings.Builder
	put := func(words ...string) { t.WriteString(strings.Join(words, " ") + "\n") }
	put("last", strconv.Itoa(s.year), strconv.Itoa(s.index), strconv.Itoa(s.of))
	putAmounts(put, "before", s.before)
	for _, code := range slices.Sorted(maps.Keys(s.social)) {
		if c := s.social[code]; c != (social.Sums{}) {
			put("social", code, cents.Text(c.Base), cents.Text(c.Insured), cents.Text(c.Worker), cents.Text(c.Firm))
		}
	}
	if s.tax != (tax.Sums{}) {
		put("tax", cents.Text(s.tax.Base), cents.Text(s.tax.Tax))
	}
	putAmounts(put, "order", s.orders)
	return t.String()
}

// putAmounts puts a line of each code's amount that isn't 0, by rising codes.
func putAmounts(put func(words ...string), word string, sums map[string]api.Cents) {
	for _, code := range slices.Sorted(maps.Keys(sums)) {
		if sums[code] != 0 {
			put(word, code, cents.Text(sums[code]))
		}
	}
}
