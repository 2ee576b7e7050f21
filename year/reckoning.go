package year

import (
	"maps"
	"slices"

	"wagebook/api"
	"wagebook/attach"
	"wagebook/before"
	"wagebook/cents"
	"wagebook/slip"
	"wagebook/social"
	"wagebook/tax"
)

// taxCode is the code of a slip's line of tax.
const taxCode = "tax"

// reckoning is what a Month comes to, part by part: each one hangs on those that are reckoned ahead of it.
type reckoning struct {
	month api.Month
	now   State                    // behind the parts that are reckoned
	gross api.Cents                // what contributions are reckoned of
	base  api.Cents                // what tax is reckoned of
	left  api.Cents                // the gross less all that is held back so far
	items [api.Firm + 1][]api.Item // by the slip's parts
	slip  api.Slip
}

// begin is a reckoning of which no part is reckoned; in another year than the state's its sums begin anew, but for the orders'.
func (s State) begin(m api.Month) *reckoning {
	if m.Year != s.year {
		s = State{orders: s.orders}
	}
	s.year, s.index, s.of = m.Year, m.Index, m.Of
	return &reckoning{month: m, now: s, slip: api.Slip{Year: m.Year, Index: m.Index}}
}

// takeGross sums up what is earned.
func (r *reckoning) takeGross() api.Errno {
	var e api.Errno
	r.gross, e = before.Sum(r.month.Gross)
	r.left = r.gross
	r.items[api.Gross] = r.month.Gross
	return e
}

// takeBefore takes the deductions ahead of tax. They are never more than a gross above 0, so that the base fits as it does.
func (r *reckoning) takeBefore() api.Errno {
	taken, sums, e := before.Take(r.gross, r.now.before, r.month.Before, r.month.Limits...)
	r.now.before = sums
	r.hold(api.Before, taken)
	r.base = r.left
	return e
}

// takeSocial takes the contributions, of both sides.
func (r *reckoning) takeSocial() api.Errno {
	sums, workers, firms, e := social.All(r.now.social, r.gross, r.month.Schemes...)
	r.now.social = sums
	r.hold(api.Worker, workers)
	r.items[api.Firm] = firms
	return e
}

// takeTax withholds the period's tax, or gives some back.
func (r *reckoning) takeTax() api.Errno {
	sums, held, e := tax.Step(r.now.tax, r.base, r.month.Index, r.month.Of, r.month.Card)
	r.now.tax = sums
	r.hold(api.Tax, []api.Item{{Code: taxCode, Cents: held}})
	return e
}

// takeAfter takes the deductions behind tax.
func (r *reckoning) takeAfter() api.Errno {
	r.items[api.After], r.left = before.After(r.left, r.month.After)
	return api.OK
}

// takeOrders takes the attachments of what is left then.
func (r *reckoning) takeOrders() api.Errno {
	taken, paid, e := attach.Take(r.left, r.now.orders, r.month.Orders...)
	r.now.orders = paid
	r.hold(api.Orders, taken)
	return e
}

// hold holds back what a part takes. What is left then may be beyond the limits: whether it fits is asked where orders are taken.
func (r *reckoning) hold(part int, taken []api.Item) {
	r.items[part] = taken
	for _, item := range taken {
		r.left -= item.Cents
	}
}

// putLines puts all parts' items as the slip's lines.
func (r *reckoning) putLines() api.Errno {
	for part, items := range r.items {
		lines, e := linesOf(part, items)
		if e != api.OK {
			return e
		}
		r.slip.Lines = append(r.slip.Lines, lines...)
	}
	return api.OK
}

// checkSlip asks the layer below whether the slip is right.
func (r *reckoning) checkSlip() api.Errno {
	return slip.Check(r.slip)
}

// linesOf is a part's lines: of each code one, by rising codes, where its items don't come to 0.
func linesOf(part int, items []api.Item) ([]api.Line, api.Errno) {
	sums := map[string]api.Cents{}
	for _, item := range items {
		sums[item.Code] += item.Cents
	}
	var lines []api.Line
	for _, code := range slices.Sorted(maps.Keys(sums)) {
		if !cents.Fits(sums[code]) {
			return nil, api.ErrOverflow
		}
		if sums[code] != 0 {
			lines = append(lines, api.Line{Part: part, Code: code, Cents: sums[code]})
		}
	}
	return lines, api.OK
}
