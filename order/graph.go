package order

import (
	"maps"
	"slices"

	"wagebook/api"
)

// graph is right edges: their names, rising; and by each one's name what it needs, inputs too, rising.
type graph struct {
	names []string
	needs map[string][]string
}

// graphOf is the graph of edges that are right.
func graphOf(l []Edge) (graph, api.Errno) {
	if len(l) > api.MaxItems {
		return graph{}, api.ErrMany
	}
	needs := map[string][]string{}
	for _, edge := range l {
		if e := edge.check(); e != api.OK {
			return graph{}, e
		}
		if _, twice := needs[edge.Name]; twice {
			return graph{}, api.ErrTwice
		}
		rising := slices.Clone(edge.Needs)
		slices.Sort(rising)
		needs[edge.Name] = slices.Compact(rising)
	}
	return graph{slices.Sorted(maps.Keys(needs)), needs}, api.OK
}

// check tells what is wrong with an edge by itself.
func (e Edge) check() api.Errno {
	if !isName(e.Name) {
		return api.ErrName
	}
	if len(e.Needs) > api.MaxItems {
		return api.ErrMany
	}
	for _, need := range e.Needs {
		if !isName(need) {
			return api.ErrName
		}
	}
	return api.OK
}

// isName tells whether a text may be a name here: any bytes may.
func isName(s string) bool {
	return 1 <= len(s) && len(s) <= api.MaxName
}

// has tells whether a name is an edge's.
func (g graph) has(name string) bool {
	_, ok := g.needs[name]
	return ok
}

// ready tells whether all names that an edge's needs, but for inputs, are taken.
func (g graph) ready(name string, taken map[string]bool) bool {
	for _, need := range g.needs[name] {
		if g.has(need) && !taken[need] {
			return false
		}
	}
	return true
}

// sorted is the names, each time the least one that is ready; false, if there is none that is, but some are left.
func (g graph) sorted() ([]string, bool) {
	var order []string
	taken := map[string]bool{}
takes:
	for len(order) < len(g.names) {
		for _, name := range g.names {
			if !taken[name] && g.ready(name, taken) {
				order = append(order, name)
				taken[name] = true
				continue takes
			}
		}
		return nil, false
	}
	return order, true
}

// ringFrom is the least ring whose least name is the first one, if there is such a ring. The ways from there grow by a name at a time, those of one length in their order, so that the first one to come back is the least.
func (g graph) ringFrom(first string) []string {
	ways := [][]string{{first}}
	come := map[string]bool{}
	for len(ways) > 0 {
		way := ways[0]
		ways = ways[1:]
	needs:
		for _, need := range g.needs[way[len(way)-1]] {
			switch {
			case need == first:
				return way
			case need < first || come[need]: // a way that came there before is no longer, and comes ahead
				continue needs
			}
			come[need] = true
			ways = append(ways, append(slices.Clone(way), need))
		}
	}
	return nil
}

// turned is, by each name, the names of the edges that need it.
func (g graph) turned() map[string][]string {
	users := map[string][]string{}
	for name, needs := range g.needs {
		for _, need := range needs {
			users[need] = append(users[need], name)
		}
	}
	return users
}

// reached is all that is come to from a name, step by step; rising.
func reached(name string, next map[string][]string) []string {
	come := map[string]bool{}
	var visit func(name string)
	visit = func(name string) {
	steps:
		for _, step := range next[name] {
			if come[step] {
				continue steps
			}
			come[step] = true
			visit(step)
		}
	}
	visit(name)
	return slices.Sorted(maps.Keys(come))
}
