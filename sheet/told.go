package sheet

import (
	"wagebook/api"
	"wagebook/fact"
	"wagebook/store"
	"wagebook/word"
)

// shift is what is told but once: a day's code.
type shift struct {
	day  api.Day
	code string
}

// toldDays is the entries of those of a span's days of which a person's sheet tells, by the day. Their minutes may be too many.
func toldDays(v store.View, person uint32, s api.Span) map[api.Day]Entry {
	latest := map[shift]fact.Fact{}
	for _, k := range v.Facts(person, fact.Sheet) { // by their numbers, so that a later one takes the place of an elder one
		if s.From <= k.Fact.From && k.Fact.From < s.To {
			latest[shift{k.Fact.From, k.Fact.Code}] = k.Fact
		}
	}
	days := map[api.Day]Entry{}
	for at, f := range latest {
		sum := days[at.day]
		days[at.day] = Entry{Day: at.day, Minutes: sum.Minutes + int(f.Num), Night: sum.Night + night(f)}
	}
	return days
}

// night is how many minutes of a sheet's fact were by night.
func night(f fact.Fact) int {
	if f.Text == "" {
		return 0
	}
	minutes, _ := word.Number(f.Text, dayMinutes) // a fact that was told has a number there
	return int(minutes)
}
