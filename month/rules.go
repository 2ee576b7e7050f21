package month

import (
	"wagebook/api"
	"wagebook/book"
	"wagebook/rate"
)

// The beginnings of the names of limits, and of schemes.
const (
	limitPrefix  = "limit."
	schemePrefix = "social."
)

// rules is a book as it is in force on a day.
type rules struct {
	book book.Book
	day  api.Day
}

// number is a rule's number, or else another one.
func (r rules) number(name string, otherwise int64) int64 {
	if n, ok := r.book.Num(name, r.day); ok {
		return n
	}
	return otherwise
}

// text is a rule's text, if there is such a rule.
func (r rules) text(name string) (string, bool) {
	return r.book.Text(name, r.day)
}

// names is the names under which there are rules.
func (r rules) names() []string {
	return r.book.Names(r.day)
}

// under is what stands under a prefix.
func (r rules) under(prefix string) ([]string, api.Errno) {
	texts := r.book.Under(prefix, r.day)
	if len(texts) > api.MaxItems {
		return nil, api.ErrMany
	}
	return texts, api.OK
}

// limits is how much of which deductions may be.
func (r rules) limits() ([]api.Limit, api.Errno) {
	codes, e := r.under(limitPrefix)
	if e != api.OK {
		return nil, e
	}
	var l []api.Limit
	for _, code := range codes {
		name := limitPrefix + code
		most := r.number(name+".most", int64(rate.One))
		yearly := r.number(name+".yearly", 0)
		if !isPart(most) || !isAmount(yearly) {
			return nil, api.ErrRange
		}
		l = append(l, api.Limit{Code: code, Most: api.Rate(most), Yearly: api.Cents(yearly)})
	}
	return l, api.OK
}

// schemes is the contributions.
func (r rules) schemes() ([]api.Scheme, api.Errno) {
	codes, e := r.under(schemePrefix)
	if e != api.OK {
		return nil, e
	}
	var l []api.Scheme
	for _, code := range codes {
		name := schemePrefix + code
		worker := r.number(name+".worker", 0)
		firm := r.number(name+".firm", 0)
		ceiling := r.number(name+".ceiling", 0)
		if !isPart(worker) || !isPart(firm) || !isAmount(ceiling) {
			return nil, api.ErrRange
		}
		l = append(l, api.Scheme{Code: code, Worker: api.Rate(worker), Firm: api.Rate(firm), Ceiling: api.Cents(ceiling)})
	}
	return l, api.OK
}

// isPart tells whether a number is a rate from nothing to all.
func isPart(n int64) bool {
	return 0 <= n && n <= int64(rate.One)
}

// isAmount tells whether a number is an amount that isn't below 0.
func isAmount(n int64) bool {
	return 0 <= n && n <= api.MaxCents
}
