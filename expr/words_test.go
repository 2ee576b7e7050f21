package expr_test

import (
	"fmt"
	"math/rand"
	"slices"
	"strings"
	"testing"

	"wagebook/api"
	"wagebook/expr"
	"wagebook/lex"
)

// check fails the test, if something is another thing than was wanted.
func check[T comparable](t *testing.T, what string, got, wanted T) {
	t.Helper()
	if got != wanted {
		t.Errorf("%s: %v, wanted %v", what, got, wanted)
	}
}

// num, name and node are nodes; tree is a tree of nodes.
func num(n int64) expr.Node              { return expr.Node{Op: expr.Num, Num: n} }
func name(s string) expr.Node            { return expr.Node{Op: expr.Var, Name: s} }
func node(op int, kids ...int) expr.Node { return expr.Node{Op: op, Kids: kids} }
func tree(nodes ...expr.Node) expr.Tree  { return expr.Tree{Nodes: nodes} }

// alike tells whether two nodes are; without kids there may be a nil list, or an empty one.
func alike(a, b expr.Node) bool {
	return a.Op == b.Op && a.Num == b.Num && a.Name == b.Name && slices.Equal(a.Kids, b.Kids)
}

// same tells whether two lists of nodes are alike.
func same(a, b []expr.Node) bool {
	return slices.EqualFunc(a, b, alike)
}

// checkTree fails the test, if a formula's tree is another one than was wanted.
func checkTree(t *testing.T, s string, wanted ...expr.Node) {
	t.Helper()
	got, at, e := expr.Parse(s)
	check(t, fmt.Sprintf("error of %.100q", s), e, api.OK)
	check(t, fmt.Sprintf("place of %.100q", s), at, 0)
	if !same(got.Nodes, wanted) {
		t.Errorf("tree of %.100q: %.500s, wanted %.500s", s, fmt.Sprint(got), fmt.Sprint(wanted))
	}
}

// checkWrong fails the test, if a formula is told otherwise than wrong at a place.
func checkWrong(t *testing.T, s string, place int, wanted api.Errno) {
	t.Helper()
	got, at, e := expr.Parse(s)
	check(t, fmt.Sprintf("error of %.100q", s), e, wanted)
	check(t, fmt.Sprintf("place of %.100q", s), at, place)
	check(t, fmt.Sprintf("how many nodes of %.100q", s), len(got.Nodes), 0)
}

// arguments is how many sums a call of that name has; 0 of no call.
func arguments(s string) int {
	return map[string]int{"least": 2, "most": 2, "less": 2, "equal": 2, "if": 3}[s]
}

// opOf is the Op of a sign, or of a call's name.
func opOf(s string) int {
	return map[string]int{"+": expr.Add, "-": expr.Sub, "*": expr.Mul, "least": expr.Least, "most": expr.Most, "if": expr.If, "less": expr.Less, "equal": expr.Equal}[s]
}

// last is the last place at which a text stands outside of all brackets; -1, if it stands nowhere.
func last(tokens []lex.Token, texts ...string) int {
	at, depth := -1, 0
	for i, x := range tokens {
		if depth == 0 && slices.Contains(texts, x.Text) {
			at = i
		}
		switch x.Text {
		case "(":
			depth++
		case ")":
			depth--
		}
	}
	return at
}

// cut is the tokens, parted at the commas outside of all brackets.
func cut(tokens []lex.Token) [][]lex.Token {
	at := last(tokens, ",")
	if at < 0 {
		return [][]lex.Token{tokens}
	}
	return append(cut(tokens[:at]), tokens[at+1:])
}

// sumOf is the nodes of a sum by the chapter's words, read from its last sign on; false of what is no sum. (Kids are numbers from the first node of all on.)
func sumOf(tokens []lex.Token, first int) ([]expr.Node, bool) {
	if at := last(tokens, "+", "-"); at >= 0 {
		return joined(opOf(tokens[at].Text), first, sumOf, productOf, tokens[:at], tokens[at+1:])
	}
	return productOf(tokens, first)
}

// productOf is the nodes of a product, so read.
func productOf(tokens []lex.Token, first int) ([]expr.Node, bool) {
	if at := last(tokens, "*"); at >= 0 {
		return joined(expr.Mul, first, productOf, factorOf, tokens[:at], tokens[at+1:])
	}
	return factorOf(tokens, first)
}

// joined is the nodes of two parts, and behind them that of the sign between.
func joined(op, first int, left, right func([]lex.Token, int) ([]expr.Node, bool), a, b []lex.Token) ([]expr.Node, bool) {
	l, ok := left(a, first)
	if !ok {
		return nil, false
	}
	r, ok := right(b, first+len(l))
	if !ok {
		return nil, false
	}
	n := first + len(l) + len(r)
	return append(append(l, r...), node(op, first+len(l)-1, n-1)), true
}

// factorOf is the nodes of a factor, so read.
func factorOf(tokens []lex.Token, first int) ([]expr.Node, bool) {
	n := len(tokens)
	switch {
	case n == 1 && tokens[0].Kind == lex.Number:
		said, _ := lex.NumberOf(tokens[0].Text)
		return []expr.Node{num(said)}, true
	case n == 1 && tokens[0].Kind == lex.Name:
		return []expr.Node{name(tokens[0].Text)}, true
	case n > 2 && tokens[0].Text == "(" && tokens[n-1].Text == ")":
		return sumOf(tokens[1:n-1], first)
	case n > 3 && tokens[1].Text == "(" && tokens[n-1].Text == ")":
		parts := cut(tokens[2 : n-1])
		if len(parts) != arguments(tokens[0].Text) {
			return nil, false
		}
		var l []expr.Node
		var kids []int
		for _, x := range parts {
			more, ok := sumOf(x, first+len(l))
			if !ok {
				return nil, false
			}
			l = append(l, more...)
			kids = append(kids, first+len(l)-1)
		}
		return append(l, node(opOf(tokens[0].Text), kids...)), true
	}
	return nil, false
}

// begins tells whether some formula begins with these tokens: whether it can be ended, by a factor or not, and by an end of each bracket that is open.
func begins(tokens []lex.Token) bool {
	open := 0
	for _, x := range tokens {
		switch x.Text {
		case "(":
			open++
		case ")":
			open--
		}
	}
	factor := lex.Token{Kind: lex.Name, Text: "x"}
	return ended(tokens, open) || ended(append(slices.Clone(tokens), factor), open)
}

// ended tells whether there is a formula of these tokens, and behind them the ends of so many brackets.
func ended(tokens []lex.Token, open int) bool {
	if open <= 0 {
		_, ok := sumOf(tokens, 0)
		return ok
	}
	tokens = slices.Clone(tokens)
	for range 3 {
		if ended(append(slices.Clone(tokens), lex.Token{Kind: lex.Sign, Text: ")"}), open-1) {
			return true
		}
		tokens = append(tokens, lex.Token{Kind: lex.Sign, Text: ","}, lex.Token{Kind: lex.Name, Text: "x"})
	}
	return false
}

// parsed is what is to be told of a formula of few nodes, by the words: of each token whether it can stand where it does.
func parsed(s string) ([]expr.Node, int, api.Errno) {
	tokens, at, e := lex.All(s)
	if e != api.OK {
		return nil, at, e
	}
	tokens = tokens[:len(tokens)-1]
	for i, x := range tokens {
		switch {
		case begins(tokens[:i+1]):
		case x.Text == "(" && tokens[max(i-1, 0)].Kind == lex.Name && arguments(tokens[i-1].Text) == 0:
			return nil, tokens[i-1].At, api.ErrUnknown
		default:
			return nil, x.At, api.ErrForm
		}
	}
	nodes, ok := sumOf(tokens, 0)
	if !ok {
		return nil, len(s), api.ErrForm
	}
	return nodes, 0, api.OK
}

// depthOf is the depth of a node.
func depthOf(nodes []expr.Node, i int) int {
	deepest := 0
	for _, kid := range nodes[i].Kids {
		deepest = max(deepest, depthOf(nodes, kid))
	}
	return deepest + 1
}

// wrongNode is what is wrong with a node, by the words, where those ahead are right.
func wrongNode(nodes []expr.Node, i int) api.Errno {
	x := nodes[i]
	wanted, known := map[int]int{0: 0, 1: 0, 2: 2, 3: 2, 4: 2, 5: 2, 6: 2, 7: 3, 8: 2, 9: 2}[x.Op]
	if !known {
		return api.ErrKind
	}
	if len(x.Kids) != wanted {
		return api.ErrForm
	}
	for j, kid := range x.Kids {
		if kid < 0 || kid >= i || slices.Contains(x.Kids[:j], kid) {
			return api.ErrOrder
		}
		for _, other := range nodes[:i] {
			if slices.Contains(other.Kids, kid) {
				return api.ErrOrder
			}
		}
	}
	if x.Op == 0 && (x.Num < 0 || x.Num > 1000000000000000000 || x.Num%100 != 0) || x.Op != 0 && x.Num != 0 {
		return api.ErrRange
	}
	if x.Op == 1 && !lex.IsName(x.Name) || x.Op != 1 && x.Name != "" {
		return api.ErrName
	}
	return api.OK
}

// wrong is what is wrong with a tree, by the words.
func wrong(nodes []expr.Node) api.Errno {
	if len(nodes) == 0 {
		return api.ErrEmpty
	}
	if len(nodes) > 256 {
		return api.ErrMany
	}
	kids := map[int]bool{}
	for i, x := range nodes {
		if e := wrongNode(nodes, i); e != api.OK {
			return e
		}
		for _, kid := range x.Kids {
			kids[kid] = true
		}
	}
	for i := range len(nodes) - 1 {
		if !kids[i] {
			return api.ErrForm
		}
	}
	if depthOf(nodes, len(nodes)-1) > 16 {
		return api.ErrDeep
	}
	return api.OK
}

// bracketed is a node's formula with a bracket around each sign and its kids.
func bracketed(nodes []expr.Node, i int) string {
	x := nodes[i]
	var parts []string
	for _, kid := range x.Kids {
		parts = append(parts, bracketed(nodes, kid))
	}
	switch {
	case x.Op == expr.Num:
		s := fmt.Sprintf("%d.%06d", x.Num/1000000, x.Num%1000000)
		return strings.TrimSuffix(strings.TrimRight(s, "0"), ".")
	case x.Op == expr.Var:
		return x.Name
	case x.Op <= expr.Mul:
		return "(" + parts[0] + []string{"+", "-", "*"}[x.Op-expr.Add] + parts[1] + ")"
	}
	return []string{"least", "most", "if", "less", "equal"}[x.Op-expr.Least] + "(" + strings.Join(parts, ",") + ")"
}

// fewest is a formula of the same tree, without each pair of brackets that isn't needed.
func fewest(t *testing.T, s string) string {
	nodes, ok := sumOf(tokensOf(t, s), 0)
	check(t, "is "+s+" a formula", ok, true)
	for at := 0; at < len(s); at++ {
		if s[at] != '(' {
			continue
		}
		end := closing(s, at)
		less := s[:at] + s[at+1:end] + s[end+1:]
		got, ok := sumOf(tokensOf(t, less), 0)
		if ok && same(got, nodes) {
			s = less
			at--
		}
	}
	return s
}

// closing is the place of the end of a bracket.
func closing(s string, at int) int {
	depth := 0
	for i := at; i < len(s); i++ {
		switch s[i] {
		case '(':
			depth++
		case ')':
			depth--
		}
		if depth == 0 {
			return i
		}
	}
	return len(s)
}

// tokensOf is a formula's tokens, but for the End.
func tokensOf(t *testing.T, s string) []lex.Token {
	tokens, _, e := lex.All(s)
	if e == api.ErrLong { // names that ran together, where a bracket was taken out
		return nil
	}
	check(t, "error of the tokens of "+s, e, api.OK)
	return tokens[:max(len(tokens)-1, 0)]
}

// someTree is a right tree at most so deep, its nodes in the order in which its text ends them.
func someTree(r *rand.Rand, depth int) []expr.Node {
	var nodes []expr.Node
	var grow func(depth int) int
	grow = func(depth int) int {
		op := r.Intn(10)
		if depth == 1 {
			op = r.Intn(2)
		}
		x := expr.Node{Op: op}
		switch op {
		case expr.Num:
			x.Num = []int64{0, 100, 500000, 1000000, 12340000, 999999999999999900, 1000000000000000000, int64(r.Intn(1000)) * 1000100}[r.Intn(8)]
		case expr.Var:
			x.Name = []string{"a", "b", "c", "least", "if", "x_1:y.z", strings.Repeat("n", 32)}[r.Intn(7)]
		case expr.If:
			x.Kids = []int{grow(depth - 1), grow(depth - 1), grow(depth - 1)}
		default:
			x.Kids = []int{grow(depth - 1), grow(depth - 1)}
		}
		nodes = append(nodes, x)
		return len(nodes) - 1
	}
	grow(depth)
	return nodes
}

// shuffled is a right tree's nodes in some other order in which kids stand ahead.
func shuffled(r *rand.Rand, nodes []expr.Node) []expr.Node {
	var l []expr.Node
	places := map[int]int{}
	for len(l) < len(nodes) {
		i := r.Intn(len(nodes))
		_, done := places[i]
		ready := !done
		kids := []int(nil)
		for _, kid := range nodes[i].Kids {
			place, ok := places[kid]
			ready = ready && ok
			kids = append(kids, place)
		}
		if ready {
			places[i] = len(l)
			x := nodes[i]
			x.Kids = kids
			l = append(l, x)
		}
	}
	return l
}
