package terms

import (
	"wagebook/api"
	"wagebook/fact"
	"wagebook/line"
	"wagebook/rate"
	"wagebook/store"
	"wagebook/week"
)

// fullDay is the minutes of a weekday of which nothing was told.
const fullDay = 480

// term is a kind of facts, and how the value of such a fact is put into terms.
type term struct {
	kind int
	put  func(t *Terms, value line.Value)
}

// allTerms are those of all kinds that make terms.
func allTerms() []term {
	return []term{
		{fact.Employ, func(t *Terms, value line.Value) { t.Employed = isEmployed(value) }},
		{fact.Salary, func(t *Terms, value line.Value) { t.Salary = api.Cents(value.Num) }},
		{fact.Part, func(t *Terms, value line.Value) { t.Part = api.Rate(value.Num) }},
		{fact.Hours, func(t *Terms, value line.Value) { t.Hours, _ = week.Parse(value.Text) }}, // a fact that was told has a week's text
		{fact.Cost, func(t *Terms, value line.Value) { t.Cost = value.Text }},
	}
}

// told is, for each kind, what puts the value in force on the first one of the terms' days into terms; and the days within a span on which such a value may be another one than on the day ahead.
func told(v store.View, person uint32, s api.Span) ([]func(t *Terms), []api.Day) {
	var tells []func(t *Terms)
	var cuts []api.Day
	for _, each := range allTerms() {
		facts := lineOf(v, person, each.kind)
		cuts = append(cuts, facts.Changes(s)...)
		tells = append(tells, func(t *Terms) {
			if value, ok := facts.At(t.Span.From); ok {
				each.put(t, value)
			}
		})
	}
	return tells, cuts
}

// untold is the terms on days of which nothing was told.
func untold(days api.Span) Terms {
	return Terms{Span: days, Part: rate.One, Hours: week.Week{fullDay, fullDay, fullDay, fullDay, fullDay}, Cost: "firm:1"}
}

// lineOf is which of a person's facts of a kind is in force on which day.
func lineOf(v store.View, person uint32, kind int) line.Line {
	return line.Of(v.Facts(person, kind)...)
}

// isEmployed tells whether the value of an Employ fact says so.
func isEmployed(value line.Value) bool {
	return value.Num == 1
}
