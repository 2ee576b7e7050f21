package eval_test

import (
	"fmt"
	"maps"
	"math"
	"math/big"
	"math/rand"
	"slices"
	"strings"
	"testing"

	"wagebook/api"
	"wagebook/eval"
	"wagebook/expr"
	"wagebook/lex"
	"wagebook/order"
)

const (
	one     = int64(1000000)
	top     = int64(1000000000000000000)
	lowest  = int64(math.MinInt64)
	highest = int64(math.MaxInt64)
)

// check fails the test, if something is another thing than was wanted.
func check[T comparable](t *testing.T, what string, got, wanted T) {
	t.Helper()
	if got != wanted {
		t.Errorf("%s: %v, wanted %v", what, got, wanted)
	}
}

// checkEnv fails the test, if an environment is another one than was wanted; an empty one may be nil.
func checkEnv(t *testing.T, what string, got, wanted eval.Env) {
	t.Helper()
	if !maps.Equal(got, wanted) {
		t.Errorf("%s: %.500s, wanted %.500s", what, fmt.Sprint(got), fmt.Sprint(wanted))
	}
}

// checkNames fails the test, if names are others than were wanted.
func checkNames(t *testing.T, what string, got []string, wanted ...string) {
	t.Helper()
	if !slices.Equal(got, wanted) {
		t.Errorf("%s: %.500q, wanted %.500q", what, got, wanted)
	}
}

// num, name and node are nodes; tree is a tree of nodes.
func num(n int64) expr.Node              { return expr.Node{Op: expr.Num, Num: n} }
func name(s string) expr.Node            { return expr.Node{Op: expr.Var, Name: s} }
func node(op int, kids ...int) expr.Node { return expr.Node{Op: op, Kids: kids} }
func tree(nodes ...expr.Node) expr.Tree  { return expr.Tree{Nodes: nodes} }

// parsed is the tree of a formula.
func parsed(t *testing.T, s string) expr.Tree {
	t.Helper()
	x, at, e := expr.Parse(s)
	if e != api.OK || at != 0 {
		t.Fatalf("Parse of %q: error %d at %d", s, e, at)
	}
	return x
}

// rules are those of a text: "net=gross-tax, tax=gross*0.2" is net, with the formula gross-tax, and tax, with the other one; so no call stands in them.
func rules(t *testing.T, s string) []eval.Rule {
	t.Helper()
	var l []eval.Rule
	for _, x := range strings.Split(s, ",") {
		if own, formula, ok := strings.Cut(strings.TrimSpace(x), "="); ok {
			l = append(l, eval.Rule{Name: own, Tree: parsed(t, formula)})
		}
	}
	return l
}

// nearest is the quotient by a million, by the words: of the two whole numbers around it the one that is nearer; of two as near the one farther from 0.
func nearest(n *big.Int) *big.Int {
	floor, rest := new(big.Int).DivMod(n, big.NewInt(one), new(big.Int))
	ceil := new(big.Int).Add(floor, big.NewInt(1))
	switch half := rest.Cmp(big.NewInt(one / 2)); {
	case half < 0:
		return floor
	case half > 0:
		return ceil
	case floor.CmpAbs(ceil) > 0:
		return floor
	}
	return ceil
}

// valueByWords is a node's value, reckoned without a limit.
func valueByWords(x expr.Node, values []*big.Int) *big.Int {
	var kids []*big.Int
	for _, kid := range x.Kids {
		kids = append(kids, values[kid])
	}
	truth := func(is bool) *big.Int {
		return big.NewInt(map[bool]int64{true: one}[is])
	}
	switch x.Op {
	case expr.Num:
		return big.NewInt(x.Num)
	case expr.Add:
		return new(big.Int).Add(kids[0], kids[1])
	case expr.Sub:
		return new(big.Int).Sub(kids[0], kids[1])
	case expr.Mul:
		return nearest(new(big.Int).Mul(kids[0], kids[1]))
	case expr.Less:
		return truth(kids[0].Cmp(kids[1]) < 0)
	case expr.Equal:
		return truth(kids[0].Cmp(kids[1]) == 0)
	case expr.If:
		return map[bool]*big.Int{true: kids[2], false: kids[1]}[kids[0].Sign() == 0]
	}
	slices.SortFunc(kids, (*big.Int).Cmp)
	return map[int]*big.Int{expr.Least: kids[0], expr.Most: kids[1]}[x.Op]
}

// evalByWords is what Eval is to tell.
func evalByWords(x expr.Tree, env eval.Env) (int64, api.Errno) {
	if e := x.Check(); e != api.OK {
		return 0, e
	}
	var values []*big.Int
	for _, each := range x.Nodes {
		var value *big.Int
		if each.Op == expr.Var {
			said, ok := env[each.Name]
			if !ok {
				return 0, api.ErrUnknown
			}
			value = big.NewInt(said)
		} else {
			value = valueByWords(each, values)
		}
		if value.CmpAbs(big.NewInt(top)) > 0 {
			return 0, api.ErrOverflow
		}
		values = append(values, value)
	}
	return values[len(values)-1].Int64(), api.OK
}

// allByWords is what All is to tell.
func allByWords(env eval.Env, l []eval.Rule) (eval.Env, api.Errno) {
	if len(l) > 64 {
		return nil, api.ErrMany
	}
	var edges []order.Edge
	for _, r := range l {
		if !lex.IsName(r.Name) {
			return nil, api.ErrName
		}
		for other := range env {
			if other == r.Name {
				return nil, api.ErrTwice
			}
		}
		if e := r.Tree.Check(); e != api.OK {
			return nil, e
		}
		edges = append(edges, order.Edge{Name: r.Name, Needs: r.Tree.Vars()})
	}
	names, e := order.Sort(edges...)
	if e != api.OK {
		return nil, e
	}
	grown := eval.Env{}
	maps.Copy(grown, env)
	for _, own := range names {
		for _, r := range l {
			if r.Name != own {
				continue
			}
			value, e := evalByWords(r.Tree, grown)
			if e != api.OK {
				return nil, e
			}
			grown[own] = value
		}
	}
	return grown, api.OK
}

// readsByWords is what Reads is to tell.
func readsByWords(l []eval.Rule) []string {
	var names []string
	for _, r := range l {
		if r.Tree.Check() != api.OK {
			continue
		}
		for _, x := range r.Tree.Nodes {
			isRule := slices.ContainsFunc(l, func(other eval.Rule) bool { return other.Name == x.Name })
			if x.Op == expr.Var && !isRule && !slices.Contains(names, x.Name) {
				names = append(names, x.Name)
			}
		}
	}
	slices.Sort(names)
	return names
}

// someValue is a value, in most cases one that is right.
func someValue(r *rand.Rand) int64 {
	pool := []int64{0, 1, 2, 499999, 500000, 500001, one, one + 1, 2500000, 1 << 40, 999999999, 1000000000, 1000000001, top / 2, top/2 + 1, top - 1, top, r.Int63n(one), r.Int63n(1000 * one), r.Int63n(top), 1 << 62, highest, top + 1}
	most := len(pool)
	if r.Intn(8) > 0 {
		most -= 3
	}
	value := pool[r.Intn(most)]
	if r.Intn(3) == 0 {
		return -value
	}
	return value
}

// names are those of variables, and of rules.
func names() []string { return []string{"a", "b", "c", "d", "e", "least", "x_1:y.z"} }

// someEnv has values under some of the names.
func someEnv(r *rand.Rand) eval.Env {
	env := eval.Env{}
	for _, s := range names() {
		if r.Intn(8) > 0 {
			env[s] = someValue(r)
		}
	}
	return env
}

// someTree is a right tree at most so deep, of these names; its nodes stand in any order in which kids stand ahead.
func someTree(r *rand.Rand, depth int, names []string) expr.Tree {
	var nodes []expr.Node
	var grow func(depth int) int
	grow = func(depth int) int {
		op := r.Intn(10)
		if depth == 1 || len(nodes) > 60 {
			op = r.Intn(2)
		}
		x := expr.Node{Op: op}
		switch op {
		case expr.Num:
			x.Num = []int64{0, 100, 500000, one, 2 * one, 12340000, top - 100, top, r.Int63n(1000) * 100}[r.Intn(9)]
		case expr.Var:
			x.Name = names[r.Intn(len(names))]
		case expr.If:
			x.Kids = []int{grow(depth - 1), grow(depth - 1), grow(depth - 1)}
		default:
			x.Kids = []int{grow(depth - 1), grow(depth - 1)}
		}
		nodes = append(nodes, x)
		return len(nodes) - 1
	}
	grow(depth)
	return tree(shuffled(r, nodes)...)
}

// shuffled is a right tree's nodes in some other order in which kids stand ahead.
func shuffled(r *rand.Rand, nodes []expr.Node) []expr.Node {
	var l []expr.Node
	places := map[int]int{}
	for len(l) < len(nodes) {
		i := r.Intn(len(nodes))
		_, done := places[i]
		ready := !done
		kids := []int(nil)
		for _, kid := range nodes[i].Kids {
			place, ok := places[kid]
			ready = ready && ok
			kids = append(kids, place)
		}
		if ready {
			places[i] = len(l)
			x := nodes[i]
			x.Kids = kids
			l = append(l, x)
		}
	}
	return l
}

// spoilt is a tree that in most cases isn't right any more.
func spoilt(r *rand.Rand, x expr.Tree) expr.Tree {
	nodes := slices.Clone(x.Nodes)
	i := r.Intn(len(nodes))
	nodes[i].Kids = slices.Clone(nodes[i].Kids)
	switch r.Intn(6) {
	case 0:
		return tree()
	case 1:
		nodes[i].Op = r.Intn(14) - 2
	case 2:
		nodes[i].Kids = append(nodes[i].Kids, r.Intn(4)-1)
		if len(nodes[i].Kids) > 1 && r.Intn(3) > 0 {
			nodes[i].Kids = nodes[i].Kids[1:]
		}
	case 3:
		nodes[i].Num = someValue(r)
	case 4:
		nodes[i].Name = []string{"", "a", "A", "1"}[r.Intn(4)]
	case 5:
		nodes = nodes[:i]
	}
	return tree(nodes...)
}

// someRules are rules of some names, most of which need each other in one direction alone; some are wrong.
func someRules(r *rand.Rand) []eval.Rule {
	own := names()
	r.Shuffle(len(own), func(i, j int) { own[i], own[j] = own[j], own[i] })
	inputs := []string{"in.a", "in.b"}
	var l []eval.Rule
	for i := range r.Intn(len(own)) {
		reads := append(slices.Clone(inputs), own[:i]...)
		if r.Intn(24) == 0 {
			reads = own
		}
		x := eval.Rule{Name: own[i], Tree: someTree(r, 1+r.Intn(3), reads)}
		switch r.Intn(40) {
		case 0:
			x.Tree = spoilt(r, x.Tree)
		case 1:
			x.Name = []string{"", "A", "1a", "in.a", own[0], strings.Repeat("n", 33)}[r.Intn(6)]
		}
		l = append(l, x)
	}
	r.Shuffle(len(l), func(i, j int) { l[i], l[j] = l[j], l[i] })
	return l
}
