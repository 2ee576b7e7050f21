package month

import (
	"strings"

	"wagebook/api"
	"wagebook/eval"
	"wagebook/expr"
	"wagebook/fact"
	"wagebook/lex"
	"wagebook/period"
)

const (
	million    = 1000000
	finest     = 10000                         // millionths of a cent, as formulas reckon in hundreds of cents
	mostValue  = 1000000000000 * million       // the greatest value of layer 15
	mostWhole  = mostValue / million           // what is whole and a value
	mostAmount = api.Cents(mostValue / finest) // the amount whose value is the greatest one
	calcPrefix = "calc."                       // of what is reckoned for other formulas alone
	rulePrefix = "rule:"                       // under which formulas read rules
)

// elements is an item for each of the firm's formulas, but for those that only others read; by rising codes.
func (s source) elements(pay earned) ([]api.Item, api.Errno) {
	formulas, e := s.formulas()
	if e != api.OK {
		return nil, e
	}
	env, e := s.environment(pay)
	if e != api.OK {
		return nil, e
	}
	values, e := eval.All(env, formulas...)
	if e != api.OK {
		return nil, e
	}
	var l []api.Item
	for _, each := range formulas {
		if !strings.HasPrefix(each.Name, calcPrefix) {
			l = append(l, api.Item{Code: each.Name, Cents: nearest(values[each.Name])})
		}
	}
	return l, api.OK
}

// formulas is the firm's formulas that are in force, by rising codes.
func (s source) formulas() ([]eval.Rule, api.Errno) {
	var l []eval.Rule
	for _, each := range inForce(s.last(), s.firms(fact.Element)...) {
		if !lex.IsName(each.code) {
			return nil, api.ErrName
		}
		tree, _, e := expr.Parse(each.value.Text)
		if e != api.OK {
			return nil, e
		}
		l = append(l, eval.Rule{Name: each.code, Tree: tree})
	}
	return l, api.OK
}

// environment is what formulas may read.
func (s source) environment(pay earned) (eval.Env, api.Errno) {
	env := eval.Env{"part": int64(pay.last.Part)}
	for _, item := range append(pay.items(), api.Item{Code: "yearly", Cents: pay.last.Salary}) {
		if item.Cents > mostAmount || item.Cents < -mostAmount {
			return nil, api.ErrOverflow
		}
		env[item.Code] = int64(item.Cents) * finest
	}
	for name, n := range pay.wholes(s.period) {
		if n <= mostWhole { // of a period that is no calendar's it may be more; below 0 none is, as that has no salary
			env[name] = int64(n) * million
		}
	}
	for _, name := range s.rules.names() {
		if lex.IsName(rulePrefix + name) {
			env[rulePrefix+name] = s.rules.number(name, 0)
		}
	}
	return env, api.OK
}

// wholes is the whole numbers that formulas may read, if they are values.
func (pay earned) wholes(p period.Period) map[string]int {
	return map[string]int{
		"minutes.plain": pay.hours.Plain, "minutes.over": pay.hours.Over, "minutes.night": pay.hours.Night,
		"index": p.Index, "of": p.Of,
	}
}

// nearest is a formula's value in cents; half a cent goes away from 0 on both sides.
func nearest(value int64) api.Cents {
	if value < 0 {
		return -nearest(-value)
	}
	return api.Cents((value + finest/2) / finest)
}
