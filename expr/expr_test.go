package expr_test

import (
	"fmt"
	"math"
	"math/rand"
	"slices"
	"sort"
	"strings"
	"testing"

	"wagebook/api"
	"wagebook/expr"
)

func TestP13_1Nodes(t *testing.T) {
	checkTree(t, "a+2*(b-c)", name("a"), num(2000000), name("b"), name("c"), node(expr.Sub, 2, 3), node(expr.Mul, 1, 4), node(expr.Add, 0, 5))
	checkTree(t, "if(less(a,1),0,a)", name("a"), num(1000000), node(expr.Less, 0, 1), num(0), name("a"), node(expr.If, 2, 3, 4))
	checkTree(t, "12.50", num(12500000))
	checkTree(t, " 0001000000000000.0000 ", num(1000000000000000000))
	checkTree(t, "x_1:y.z", name("x_1:y.z"))
	checkTree(t, "least(1,2)", num(1000000), num(2000000), node(expr.Least, 0, 1))
	checkTree(t, "most(1,2)", num(1000000), num(2000000), node(expr.Most, 0, 1))
	checkTree(t, "less(1,2)", num(1000000), num(2000000), node(expr.Less, 0, 1))
	checkTree(t, "equal(1,2)", num(1000000), num(2000000), node(expr.Equal, 0, 1))
	checkTree(t, "if(a,b,c)", name("a"), name("b"), name("c"), node(expr.If, 0, 1, 2))
	checkTree(t, "if ( a+b , least(c,1) , (d) )", name("a"), name("b"), node(expr.Add, 0, 1), name("c"), num(1000000), node(expr.Least, 3, 4), name("d"), node(expr.If, 2, 5, 6))
}

// TestP13_1Left: the signs take what is left of them first, * ahead of + and -.
func TestP13_1Left(t *testing.T) {
	for s, ops := range map[string][2]int{"a-b+c": {expr.Sub, expr.Add}, "a+b-c": {expr.Add, expr.Sub}, "a-b-c": {expr.Sub, expr.Sub}, "a*b*c": {expr.Mul, expr.Mul}, "a*b+c": {expr.Mul, expr.Add}, "a*b-c": {expr.Mul, expr.Sub}, "(a+b)*c": {expr.Add, expr.Mul}} {
		checkTree(t, s, name("a"), name("b"), node(ops[0], 0, 1), name("c"), node(ops[1], 2, 3))
	}
	for s, ops := range map[string][2]int{"a-(b+c)": {expr.Add, expr.Sub}, "a+b*c": {expr.Mul, expr.Add}, "a-b*c": {expr.Mul, expr.Sub}, "a*(b*c)": {expr.Mul, expr.Mul}, "a*(b-c)": {expr.Sub, expr.Mul}} {
		checkTree(t, s, name("a"), name("b"), name("c"), node(ops[0], 1, 2), node(ops[1], 0, 3))
	}
	checkTree(t, "a*b+c*d-e", name("a"), name("b"), node(expr.Mul, 0, 1), name("c"), name("d"), node(expr.Mul, 3, 4), node(expr.Add, 2, 5), name("e"), node(expr.Sub, 6, 7))
}

// TestP13_1Words: a name that isn't right ahead of a bracket is a variable, also one of the five words.
func TestP13_1Words(t *testing.T) {
	for _, s := range []string{"least", "most", "if", "less", "equal", "add", "num"} {
		checkTree(t, s, name(s))
		checkTree(t, "("+s+")*"+s, name(s), name(s), node(expr.Mul, 0, 1))
		checkTree(t, "least("+s+","+s+")", name(s), name(s), node(expr.Least, 0, 1))
	}
}

func TestP13_1Form(t *testing.T) {
	for s, at := range map[string]int{
		"": 0, "   ": 3, "a+": 2, "a + ": 4, "a b": 2, "a)": 1, "a=b": 1, "a<b": 1, "(a": 2, "( a ": 4, "()": 1, "(": 1, ")": 0, ",": 0, "a,b": 1, "(a,b)": 2, "-1": 0, "+a": 0, "*": 0,
		"a++b": 2, "a-*b": 2, "a*-1": 2, "2(a)": 1, "2a": 1, "a 2": 2, "1 2": 2, "(a)(b)": 3, "(a)b": 3, "(a)2": 3, "(a))": 3, "a+)": 2, "a*(b+": 5, "((a)": 4, "<": 0, "=": 0, "a*=b": 2,
		"least(a)": 7, "least(a,b,c)": 9, "least(a,b,": 9, "if(a,b)": 6, "if(a)": 4, "if(a,b,c,d)": 8, "if(a,b,c,)": 8, "least()": 6, "least(,a)": 6, "least(a,)": 8, "least(": 6, "least(a": 7, "least(a,": 8, "least(a,b": 9, "if(a,b,": 7,
		"least((a,b),c)": 8, "least(a b)": 8, "least(a,(b)": 11, "least(a,b))": 10, "less(a,b)(c)": 9, "1+least(a+b*2)": 13, "equal(least(a,b))": 16, "most(if(a,b,c),d,e)": 16, "less(a,b)less(a,b)": 9,
	} {
		checkWrong(t, s, at, api.ErrForm)
	}
}

// TestP13_1Unknown: a call of another name than the five is told where the name is, ahead of what follows; but a name that can't stand there is told first.
func TestP13_1Unknown(t *testing.T) {
	for s, at := range map[string]int{"foo(1,)": 0, "1+min(a)": 2, "foo(": 0, "x ( ": 0, "least(a,max(b": 8, "leas(a,b)": 0, "least.(a,b)": 0, "a*b(": 2, "(add(1,2)": 1, "foo()": 0, "if(x(": 3} {
		checkWrong(t, s, at, api.ErrUnknown)
	}
	for s, at := range map[string]int{"a foo(1)": 2, "2x(1)": 1, "(a)x(1)": 3, "a foo(": 2, "+foo(1)": 0, "a)foo(1)": 1, "least(a)foo(1)": 7} {
		checkWrong(t, s, at, api.ErrForm)
	}
}

// TestP13_1Tokens: what is wrong with a token is told ahead of all else, wherever it stands.
func TestP13_1Tokens(t *testing.T) {
	long := strings.Repeat("n", 33)
	checkWrong(t, "1.", 1, api.ErrForm)
	checkWrong(t, "a b foo( 1.23456", 15, api.ErrForm)
	checkWrong(t, ")"+long, 1, api.ErrLong)
	checkWrong(t, "foo(1,)+9999999999999", 8, api.ErrRange)
	checkWrong(t, "+?", 1, api.ErrForm)
	checkWrong(t, strings.Repeat("a+", 2048)+"a", 0, api.ErrLong)
	checkWrong(t, strings.Repeat("(", 5000), 0, api.ErrLong)
	checkWrong(t, strings.Repeat("(", 4096), 4096, api.ErrForm)
	checkWrong(t, strings.Repeat("least(", 600), 3600, api.ErrForm)
	checkWrong(t, strings.Repeat("a+", 2048), 4096, api.ErrForm)
	checkWrong(t, strings.Repeat("a+", 2000)+")", 4000, api.ErrForm) // ahead of too many nodes
}

// full is a formula so deep, of the call around two alike ones.
func full(call string, depth int) string {
	if depth == 1 {
		return "a"
	}
	below := full(call, depth-1)
	return call + "(" + below + "," + below + ")"
}

// sum is a formula of so many names, with + between.
func sum(n int) string {
	return "a" + strings.Repeat("+a", n-1)
}

// TestP13_1Many: at most 256 nodes, whatever the tree is.
func TestP13_1Many(t *testing.T) {
	large := full("less", 8) // 255 nodes
	with := strings.Replace(large, "less(a,a)", "if(a,a,a)", 1)
	for s, n := range map[string]int{large: 255, with: 256} {
		x, at, e := expr.Parse(s)
		check(t, fmt.Sprint("error of ", n, " nodes"), e, api.OK)
		check(t, "place", at, 0)
		check(t, "how many nodes", len(x.Nodes), n)
		check(t, "Text", x.Text(), s)
		check(t, "Depth", x.Depth(), 8)
	}
	checkWrong(t, large+"+a", 0, api.ErrMany)
	checkWrong(t, with+"+a", 0, api.ErrMany)
	checkWrong(t, sum(129), 0, api.ErrMany) // and it is too deep
	checkWrong(t, sum(2000), 0, api.ErrMany)
	checkWrong(t, sum(128), 0, api.ErrDeep)
	checkWrong(t, sum(2000)+"+", 4000, api.ErrForm)
}

// TestP13_1Deep: a tree is at most 16 deep; brackets make none deeper.
func TestP13_1Deep(t *testing.T) {
	nested := func(depth int) string {
		return strings.Repeat("if(b,c,", depth-1) + "a" + strings.Repeat(")", depth-1)
	}
	right := strings.Repeat("(", 300) + sum(16) + strings.Repeat(")", 300)
	for _, s := range []string{sum(16), nested(16), right, strings.Repeat("b-(", 15) + "a" + strings.Repeat(")", 15), "a" + strings.Repeat("*a", 15), strings.Repeat("(", 2047) + "a" + strings.Repeat(")", 2047)} {
		x, at, e := expr.Parse(s)
		check(t, fmt.Sprintf("error of %.60q", s), e, api.OK)
		check(t, "place", at, 0)
		check(t, fmt.Sprintf("how deep is %.60q", s), x.Depth(), max(strings.Count(s, "a"), strings.Count(s, "if")+1, strings.Count(s, "-")+1))
	}
	for _, s := range []string{sum(17), nested(17), strings.Repeat("b-(", 16) + "a" + strings.Repeat(")", 16), "a" + strings.Repeat("*a", 16), "less(1," + sum(16) + ")", "(" + sum(16) + ")*2", "2*(" + sum(16) + ")"} {
		checkWrong(t, s, 0, api.ErrDeep)
	}
	checkWrong(t, sum(17)+")", 33, api.ErrForm)
}

// TestP13_1ByWords holds all formulas of a few tokens, and some longer ones, against the words.
func TestP13_1ByWords(t *testing.T) {
	pieces := []string{"", "a", "1", "+", "*", "(", ")", ",", "less", "if", "foo", "<"}
	r := rand.New(rand.NewSource(131))
	right := 0
	hold := func(s string) {
		wanted, at, e := parsed(s)
		if e != api.OK {
			checkWrong(t, s, at, e)
			return
		}
		right++
		checkTree(t, s, wanted...)
	}
	for n := range 12 * 12 * 12 * 12 {
		s := ""
		for ; n > 0; n /= 12 {
			s += pieces[n%12] + " "
		}
		hold(s)
	}
	for range 6000 {
		hold(broken(r, tree(someTree(r, 1+r.Intn(4))...).Text()))
	}
	check(t, "are enough of them right", right > 1500, true)
}

// broken is a formula, in most cases with a few bytes taken out, or put in.
func broken(r *rand.Rand, s string) string {
	for range r.Intn(3) {
		at := r.Intn(len(s) + 1)
		end := min(at+r.Intn(3), len(s))
		s = s[:at] + []string{"", "", "(", ")", ",", "+", "*", " ", "a", "if(", "less(", "foo("}[r.Intn(12)] + s[end:]
	}
	if strings.Count(s, "(") > 5 { // there would be too many ends to be tried
		return "a"
	}
	return s
}

func TestP13_2Check(t *testing.T) {
	for i, x := range []struct {
		wanted api.Errno
		t      expr.Tree
	}{
		{api.OK, tree(num(0))}, {api.OK, tree(num(1000000000000000000))}, {api.OK, tree(num(100))}, {api.OK, tree(name("a"))}, {api.OK, tree(num(0), name("a"), node(expr.Less, 1, 0))}, {api.OK, tree(num(0), name("a"), name("a"), node(expr.If, 1, 0, 2))},
		{api.OK, tree(expr.Node{Kids: []int{}})}, {api.OK, tree(name("b"), name("a"), num(0), node(expr.Mul, 0, 2), node(expr.Add, 3, 1))},
		{api.ErrEmpty, tree()}, {api.ErrEmpty, expr.Tree{Nodes: []expr.Node{}}},
		{api.ErrKind, tree(node(10))}, {api.ErrKind, tree(node(-1))}, {api.ErrKind, tree(node(math.MaxInt))}, {api.ErrKind, tree(node(math.MinInt, 5))}, {api.ErrKind, tree(num(0), expr.Node{Op: 10, Num: 7, Name: "A", Kids: []int{0, 0}})},
		{api.ErrForm, tree(node(expr.Num, 0))}, {api.ErrForm, tree(num(0), node(expr.Num, 0))}, {api.ErrForm, tree(num(0), expr.Node{Op: expr.Var, Name: "a", Kids: []int{0}})}, {api.ErrForm, tree(num(0), num(0), num(0), node(expr.Add, 0, 1, 2))}, {api.ErrForm, tree(num(0), num(0), node(expr.If, 0, 1))},
		{api.ErrForm, tree(num(0), num(0), num(0), num(0), node(expr.If, 0, 1, 2, 3))}, {api.ErrForm, tree(num(0), node(expr.Equal, 0))}, {api.ErrForm, tree(node(expr.Most))}, {api.ErrForm, tree(num(0), node(expr.Mul, -5))},
		{api.ErrOrder, tree(num(0), node(expr.Add, 0, 0))}, {api.ErrOrder, tree(num(0), node(expr.Add, 0, 1))}, {api.ErrOrder, tree(num(0), node(expr.Add, -1, 0))}, {api.ErrOrder, tree(num(0), node(expr.Add, 2, 0), num(0))}, {api.ErrOrder, tree(num(0), node(expr.Add, 0, 300))},
		{api.ErrOrder, tree(num(0), num(0), node(expr.Add, 0, 1), node(expr.Add, 2, 1))}, {api.ErrOrder, tree(num(0), num(0), node(expr.Add, 0, math.MaxInt))}, {api.ErrOrder, tree(num(0), num(0), node(expr.Add, math.MinInt, 0))}, {api.ErrOrder, tree(num(0), num(0), expr.Node{Op: expr.Add, Num: 5, Name: "a", Kids: []int{0, 2}})},
		{api.ErrRange, tree(num(50))}, {api.ErrRange, tree(num(1))}, {api.ErrRange, tree(num(-100))}, {api.ErrRange, tree(num(1000000000000000100))}, {api.ErrRange, tree(num(math.MinInt64))}, {api.ErrRange, tree(num(math.MaxInt64))}, {api.ErrRange, tree(expr.Node{Op: expr.Var, Num: 100, Name: "A"})},
		{api.ErrRange, tree(num(0), num(0), expr.Node{Op: expr.Add, Num: 100, Kids: []int{0, 1}})}, {api.ErrRange, tree(expr.Node{Num: 5, Name: "a"})}, {api.ErrRange, tree(num(0), num(0), expr.Node{Op: expr.Add, Num: -100, Kids: []int{0, 1}})},
		{api.ErrName, tree(name("A"))}, {api.ErrName, tree(name(""))}, {api.ErrName, tree(name("a b"))}, {api.ErrName, tree(name(strings.Repeat("n", 33)))}, {api.ErrName, tree(expr.Node{Name: "a"})}, {api.ErrName, tree(num(0), num(0), expr.Node{Op: expr.Add, Name: "a", Kids: []int{0, 1}})},
		{api.ErrForm, tree(num(0), num(0))}, {api.ErrForm, tree(num(0), num(0), num(0), node(expr.Add, 1, 2))}, {api.ErrForm, tree(num(0), num(0), node(expr.Add, 0, 1), num(0))}, {api.ErrForm, tree(num(0), num(0), num(0), node(expr.Add, 0, 2), name("x"))},
		{api.ErrRange, tree(num(0), num(0), num(50))}, {api.ErrKind, tree(num(0), node(-7), num(50))}, {api.ErrName, tree(name("A"), node(-7), num(50))}, {api.ErrForm, tree(name("a"), node(expr.If), num(50))}, // node by node
	} {
		check(t, fmt.Sprint("Check of ", i, ", ", x.t), x.t.Check(), x.wanted)
	}
}

// chain is a tree so deep, in which each node but the first one has the one ahead, and a leaf, as its kids.
func chain(depth int) []expr.Node {
	l := []expr.Node{name("a")}
	for len(l) < 2*depth-1 {
		l = append(l, num(100), node(expr.Sub, len(l), len(l)-1))
	}
	return l
}

func TestP13_2ManyAndDeep(t *testing.T) {
	check(t, "16 deep", tree(chain(16)...).Check(), api.OK)
	check(t, "17 deep", tree(chain(17)...).Check(), api.ErrDeep)
	check(t, "128 deep", tree(chain(128)...).Check(), api.ErrDeep)
	check(t, "129 deep", tree(chain(129)...).Check(), api.ErrMany)
	check(t, "17 deep, and one besides", tree(append(chain(17), num(0))...).Check(), api.ErrForm)
	wide := make([]expr.Node, 256)
	check(t, "256 roots", tree(wide...).Check(), api.ErrForm)
	wide[255].Op = -1
	check(t, "256, a wrong one", tree(wide...).Check(), api.ErrKind)
	check(t, "257", tree(append(wide, num(0))...).Check(), api.ErrMany)
	check(t, "very many", tree(make([]expr.Node, 100000)...).Check(), api.ErrMany)
	check(t, "a kid far out", tree(append(wide[:200], node(expr.Add, 255, 256))...).Check(), api.ErrOrder)
	check(t, "very many kids", tree(expr.Node{Op: expr.Add, Kids: make([]int, 100000)}).Check(), api.ErrForm)
}

// turned is a tree with a few things done to it.
func turned(r *rand.Rand, nodes []expr.Node) []expr.Node {
	for range r.Intn(3) {
		i := r.Intn(len(nodes))
		x := &nodes[i]
		switch r.Intn(8) {
		case 0:
			x.Op = r.Intn(13) - 1
		case 1:
			x.Num = []int64{-100, 0, 50, 100, 1000000000000000000, 1000000000000000100}[r.Intn(6)]
		case 2:
			x.Name = []string{"", "a", "A", "2", strings.Repeat("b", 33)}[r.Intn(5)]
		case 3:
			x.Kids = append(slices.Clone(x.Kids), r.Intn(len(nodes)+2)-1)
		case 4:
			x.Kids = slices.Clone(x.Kids)[:len(x.Kids)/2]
		case 5:
			if len(x.Kids) > 0 {
				x.Kids = slices.Clone(x.Kids)
				x.Kids[r.Intn(len(x.Kids))] = r.Intn(len(nodes)+2) - 1
			}
		case 6:
			nodes = append(nodes, num(0))
		case 7:
			j := r.Intn(len(nodes))
			nodes[i], nodes[j] = nodes[j], nodes[i]
		}
	}
	return nodes
}

func TestP13_2ByWords(t *testing.T) {
	r := rand.New(rand.NewSource(132))
	seen := map[api.Errno]int{}
	for range 30000 {
		nodes := turned(r, someTree(r, 1+r.Intn(6)))
		wanted := wrong(nodes)
		seen[wanted]++
		x := tree(nodes...)
		check(t, fmt.Sprint("Check of ", nodes), x.Check(), wanted)
		if wanted != api.OK {
			checkNothing(t, x)
		}
	}
	for _, e := range []api.Errno{api.OK, api.ErrKind, api.ErrForm, api.ErrOrder, api.ErrRange, api.ErrName} {
		check(t, fmt.Sprint("is ", e, " there"), seen[e] > 100, true)
	}
}

// checkNothing fails the test, if something is told of a tree that isn't right.
func checkNothing(t *testing.T, x expr.Tree) {
	t.Helper()
	check(t, fmt.Sprint("Text of ", x), x.Text(), "")
	check(t, fmt.Sprint("how many Vars of ", x), len(x.Vars()), 0)
	check(t, fmt.Sprint("Depth of ", x), x.Depth(), 0)
}

func TestP13_3Text(t *testing.T) {
	for s, wanted := range map[string]string{
		"a+2*(b-c)": "a+2*(b-c)", " ( a - b ) + c ": "a-b+c", "a-(b+c)": "a-(b+c)", "a+(b+c)": "a+(b+c)", "a+(b-c)": "a+(b-c)", "a-(b-c)": "a-(b-c)", "(a-b)-c": "a-b-c", "a*(b*c)": "a*(b*c)", "(a*b)*c": "a*b*c",
		"(a+b)*c": "(a+b)*c", "c*(a+b)": "c*(a+b)", "(a*b)+c": "a*b+c", "c-(a*b)": "c-a*b", "(a-b)*(c-d)": "(a-b)*(c-d)", "((a))*((b))": "a*b", "((1.50))": "1.5", "least((a),(b))": "least(a,b)", "least(a-(b),(c*(d)))": "least(a-b,c*d)",
		"2*(if(a,b,c))": "2*if(a,b,c)", "(most(a,b))*(equal(a,b))": "most(a,b)*equal(a,b)", "less(a,b)-(less(a,b))": "less(a,b)-less(a,b)", "if*(least+most)": "if*(least+most)", "if((a+b),((c)*(d)),e-(f-g))": "if(a+b,c*d,e-(f-g))",
		"000": "0", "0.0": "0", "007.7000": "7.7", "0.0001": "0.0001", "0.1000": "0.1", "10.01": "10.01", "100": "100", "120.0": "120", "1000000000000.00": "1000000000000", "999999999999.9999": "999999999999.9999", "00.0100": "0.01",
	} {
		x, _, e := expr.Parse(s)
		check(t, "error of "+s, e, api.OK)
		check(t, "Text of "+s, x.Text(), wanted)
	}
	check(t, "Text in another order", tree(name("b"), name("a"), num(500000), node(expr.Mul, 0, 2), node(expr.Sub, 1, 3)).Text(), "a-b*0.5")
	check(t, "Text of a deep one", tree(chain(16)...).Text(), strings.Repeat("0.0001-(", 14)+"0.0001-a"+strings.Repeat(")", 14))
}

func TestP13_3Vars(t *testing.T) {
	for s, wanted := range map[string]string{
		"1": "", "a": "a", "b+a*b": "a b", "if(z,a.b,a:b)-a_b*a0*a": "a a.b a0 a:b a_b z", "least(least,most)": "least most", "c-b-a-b-c": "a b c", "zz+z+zzz": "z zz zzz",
	} {
		x, _, _ := expr.Parse(s)
		check(t, "Vars of "+s, strings.Join(x.Vars(), " "), wanted)
	}
}

func TestP13_3Depth(t *testing.T) {
	for s, wanted := range map[string]int{"1": 1, "a": 1, "(((a)))": 1, "b+a*b": 3, "b*a+b": 3, "a+b": 2, "if(a,b,c)": 2, "if(a,b,c+d*e)": 4, "if(c+d*e,b,a)": 4, "if(a,c+d*e,b)": 4, "1-(2-(3-4))": 4, "(1-2)-(3-4)": 3} {
		x, _, _ := expr.Parse(s)
		check(t, "Depth of "+s, x.Depth(), wanted)
	}
	check(t, "Depth of the deepest", tree(chain(16)...).Depth(), 16)
}

// TestP13_3Wrong: of trees that aren't right nothing is told.
func TestP13_3Wrong(t *testing.T) {
	for _, x := range []expr.Tree{{}, tree(node(10)), tree(node(expr.Add)), tree(num(50)), tree(name("A")), tree(name("a"), name("b")), tree(name("a"), node(expr.Add, 0, 0)), tree(name("a"), node(expr.Add, 0, 1)), tree(chain(17)...), tree(chain(129)...), tree(name("a"), num(1), node(expr.Mul, 0, 1))} {
		checkNothing(t, x)
	}
}

// TestP13_3ByWords: each text has no bracket that could be left out; Vars and Depth are those of the nodes.
func TestP13_3ByWords(t *testing.T) {
	r := rand.New(rand.NewSource(133))
	for range 4000 {
		nodes := someTree(r, 1+r.Intn(5))
		x := tree(shuffled(r, nodes)...)
		check(t, fmt.Sprint("Text of ", x), x.Text(), fewest(t, bracketed(nodes, len(nodes)-1)))
		check(t, fmt.Sprint("Depth of ", x), x.Depth(), depthOf(nodes, len(nodes)-1))
		found := map[string]bool{}
		for _, y := range nodes {
			if y.Op == expr.Var {
				found[y.Name] = true
			}
		}
		var names []string
		for s := range found {
			names = append(names, s)
		}
		sort.Strings(names)
		check(t, fmt.Sprint("Vars of ", x), fmt.Sprint(x.Vars()), fmt.Sprint(names))
	}
}

// TestP13_4Back: a right tree's text is parsed to a tree of the same text, which is it, if its nodes stand in the order that is said; in brackets, too.
func TestP13_4Back(t *testing.T) {
	r := rand.New(rand.NewSource(134))
	right := 0
	for range 20000 {
		nodes := someTree(r, 1+r.Intn(9))
		x := tree(shuffled(r, nodes)...)
		s := x.Text()
		if wrong(nodes) != api.OK || len(s) > 4000 {
			continue
		}
		right++
		checkTree(t, s, nodes...)
		checkTree(t, "("+s+")", nodes...)
		checkTree(t, "( ( "+strings.NewReplacer("(", " ( ", ",", " , ", "+", " + ").Replace(s)+" ) )", nodes...)
		check(t, "Text of "+s, tree(nodes...).Text(), s)
	}
	check(t, "are enough of them right", right > 10000, true)
}

// TestP13_4Long: a right tree's text may be longer than a formula may be.
func TestP13_4Long(t *testing.T) {
	s := full("less", 8)
	x, _, _ := expr.Parse(s)
	for i := range x.Nodes {
		if x.Nodes[i].Op == expr.Var {
			x.Nodes[i].Name = strings.Repeat("n", 32)
		}
	}
	long := strings.ReplaceAll(s, "a", strings.Repeat("n", 32))
	check(t, "Text", x.Text(), long)
	check(t, "is it longer", len(long) > 4096, true)
	checkWrong(t, long, 0, api.ErrLong)
}

// TestMemory: what a tree is asked leaves it as it was; no two lists of an answer share anything; what is done to an answer is seen in no other one.
func TestMemory(t *testing.T) {
	const s = "if(less(a,1),b*c-d,least(a,0.5))+(a-b)*c"
	x, _, _ := expr.Parse(s)
	other, _, _ := expr.Parse(s)
	wanted := fmt.Sprint(other)
	for i := range x.Nodes {
		clear(append(x.Nodes[i].Kids, 77, 77, 77)[:len(x.Nodes[i].Kids)])
		x.Nodes[i].Kids = append(x.Nodes[i].Kids[:0], 99)
		check(t, "the other one", fmt.Sprint(other), wanted)
	}
	y, _, _ := expr.Parse(s)
	check(t, "parsed again", fmt.Sprint(y), wanted)
	for i := range y.Nodes {
		_ = append(y.Nodes[i].Kids, 77, 77, 77)
	}
	check(t, "behind what was put into spare room", fmt.Sprint(y), wanted)
	names := other.Vars()
	clear(names)
	check(t, "Vars", fmt.Sprint(other.Vars()), "[a b c d]")
	check(t, "Text", other.Text(), s)
	check(t, "Depth", other.Depth(), 5)
	check(t, "Check", other.Check(), api.OK)
	check(t, "what was asked", fmt.Sprint(other), wanted)
}

// FuzzP1Parse: nothing panics; what is parsed is right, and parsed back.
func FuzzP1Parse(f *testing.F) {
	for _, s := range []string{"", "a+2*(b-c)", "if(less(a,1),0,a)", "foo(1,)", "least(a,b,c)", "((", "))", "1.", sum(17), sum(200)} {
		f.Add(s)
	}
	f.Fuzz(func(t *testing.T, s string) {
		x, at, e := expr.Parse(s)
		if e != api.OK {
			check(t, "is the place in it", 0 <= at && at <= len(s), true)
			checkNothing(t, x)
			return
		}
		check(t, "Check", x.Check(), api.OK)
		checkTree(t, x.Text(), x.Nodes...)
		if strings.Count(s, "(") < 5 && len(s) < 40 { // else there would be too many ends to be tried
			wanted, _, _ := parsed(s)
			checkTree(t, s, wanted...)
		}
	})
}
