package eval_test

import (
	"fmt"
	"maps"
	"math/rand"
	"slices"
	"strconv"
	"strings"
	"testing"

	"wagebook/api"
	"wagebook/eval"
	"wagebook/expr"
)

// checkEval fails the test, if a formula comes to another value, or error, than was wanted.
func checkEval(t *testing.T, s string, env eval.Env, wanted int64, e api.Errno) {
	t.Helper()
	got, wrong := eval.Eval(parsed(t, s), env)
	check(t, fmt.Sprintf("value of %q with %v", s, env), got, wanted)
	check(t, fmt.Sprintf("error of %q with %v", s, env), wrong, e)
}

// checkAll fails the test, if rules come to another environment, or error, than was wanted.
func checkAll(t *testing.T, what string, env eval.Env, l []eval.Rule, wanted eval.Env, e api.Errno) {
	t.Helper()
	got, wrong := eval.All(env, l...)
	check(t, "error of "+what, wrong, e)
	checkEnv(t, what, got, wanted)
}

func TestP15_1Eval(t *testing.T) {
	env := eval.Env{"a": one, "b": 2500000, "c": 500000, "z": 0, "under": -3 * one, "least": 7 * one}
	for s, wanted := range map[string]int64{
		"a+2*(b-c)": 5000000, "12.5": 12500000, "0": 0, "b": 2500000, "under": -3000000, "least": 7000000, "0001.0500": 1050000,
		"a+b": 3500000, "b+under": -500000, "c-b": -2000000, "a-b-c": -2000000, "a-(b-c)": -1000000, "a+b*c": 2250000, "(a+b)*c": 1750000,
		"least(b,c)": 500000, "least(c,b)": 500000, "least(under,z)": -3000000, "least(a,a)": 1000000, "most(b,c)": 2500000, "most(c,b)": 2500000, "most(under,z)": 0, "least(least,a)": 1000000,
		"less(c,b)": 1000000, "less(b,c)": 0, "less(a,a)": 0, "less(under,z)": 1000000, "less(z,under)": 0,
		"equal(a,1)": 1000000, "equal(a,b)": 0, "equal(b,a)": 0, "equal(z,0-0)": 1000000, "equal(under,3)": 0,
		"if(a,b,c)": 2500000, "if(z,b,c)": 500000, "if(under,b,c)": 2500000, "if(0.0001,b,c)": 2500000, "if(less(a,1),0,a)": 1000000, "if(equal(b,2.5),under,0)": -3000000, "if(1,z,a)": 0, "if(z,a,z)": 0,
	} {
		checkEval(t, s, env, wanted, api.OK)
	}
}

// TestP15_1Nodes: the root is the last node, wherever the others stand.
func TestP15_1Nodes(t *testing.T) {
	got, e := eval.Eval(tree(num(3*one), num(2*one), node(expr.Sub, 1, 0)), nil)
	check(t, "2-3", got, -one)
	check(t, "error", e, api.OK)
	got, e = eval.Eval(tree(num(5*one), num(4*one), num(0), node(expr.If, 2, 1, 0)), nil)
	check(t, "if(0,4,5)", got, 5*one)
	check(t, "error", e, api.OK)
}

// TestP15_1Mul: a product is rounded once, and no number between is cut.
func TestP15_1Mul(t *testing.T) {
	for _, x := range []struct{ a, b, wanted int64 }{
		{1, 500000, 1}, {1, 499999, 0}, {1, 500001, 1}, {1, 1499999, 1}, {1, 1500000, 2}, {3, 500000, 2}, {5, 500000, 3}, {1, 1, 0}, {0, top, 0}, {one, one, one}, {one, top, top}, {707, 708, 1}, {707, 707, 0},
		{1000000000, 1000000000, 1000000000000}, {1000000000000, 1000000000000, top}, {1 << 40, 1 << 19, 576460752303}, {999999999999, 1000000000000, 999999999999000000}, {999999999999, 999999999999, 999999999998000000},
		{top, 1, 1000000000000}, {top, 500000, top / 2}, {top, 999999, 999999000000000000}, {top - 1, 500000, top / 2}, {top - 1, 999999, 999998999999999999}, {top - 1, one, top - 1}, {top - 2, 500000, top/2 - 1},
		{4294967297, 4294967295, 18446744073710}, // 2^64 - 1, which the half of a million carries beyond 64 bits
	} {
		for _, y := range [][3]int64{{x.a, x.b, x.wanted}, {-x.a, x.b, -x.wanted}, {x.a, -x.b, -x.wanted}, {-x.a, -x.b, x.wanted}} {
			checkEval(t, "a*b", eval.Env{"a": y[0], "b": y[1]}, y[2], api.OK)
			checkEval(t, "a*b", eval.Env{"a": y[1], "b": y[0]}, y[2], api.OK)
		}
	}
	for _, x := range [][2]int64{
		{top, one + 1}, {top, top}, {top, 2 * one}, {1000000000000, 1000000000001}, {top - 1, one + 1}, {1000000000001, 1000000000000},
		{1 << 59, 32000000}, {1 << 59, 64000000}, // 2^64 and 2^65, of which 64 bits are 0
		{126960500000, 145295143558111}, // half of one below 2^64
	} {
		for _, y := range [][2]int64{x, {-x[0], x[1]}, {x[0], -x[1]}, {-x[0], -x[1]}, {x[1], x[0]}} {
			checkEval(t, "a*b", eval.Env{"a": y[0], "b": y[1]}, 0, api.ErrOverflow)
		}
	}
}

// TestP15_1MulAtTheLimit: it is the rounded product that must be a value.
func TestP15_1MulAtTheLimit(t *testing.T) {
	for _, sign := range []int64{1, -1} {
		for _, x := range []struct{ a, b, wanted int64 }{
			{512000000000000000, 1953125, top}, {333333333333333333, 3 * one, top - 1}, {799999999999999999, 1250000, top - 1}, // the last one is 1.25 below
			{750307438472914277, 1332787, top},     // 0.499999 above
			{973200017906880329, 1027538, top},     // 0.499998 below
			{728271120772841313, 1373115, top - 1}, // 0.500005 below
		} {
			checkEval(t, "a*b", eval.Env{"a": sign * x.a, "b": x.b}, sign*x.wanted, api.OK)
		}
		checkEval(t, "a*b", eval.Env{"a": sign * 666666666666666667, "b": 1500000}, 0, api.ErrOverflow) // 0.5 above
		checkEval(t, "a*b", eval.Env{"a": sign * 999999000001000000, "b": 1000001}, 0, api.ErrOverflow) // 1 above
	}
}

// TestP15_1Limits: each node must have a value, a variable, too.
func TestP15_1Limits(t *testing.T) {
	env := eval.Env{"top": top, "low": -top, "over": top + 1, "under": -top - 1, "highest": highest, "lowest": lowest, "tiny": 1, "z": 0}
	for s, wanted := range map[string]int64{
		"top": top, "low": -top, "1000000000000": top, "top+0": top, "low-0": -top, "top+low": 0, "low+top": 0, "top-top": 0, "low-low": 0, "top-tiny": top - 1, "low+tiny": 1 - top,
		"low*1": -top, "0-top": -top, "0-low": top, "least(low,top)": -top, "most(low,top)": top, "less(low,top)": one, "equal(top,1000000000000)": one, "if(low,top,low)": top,
	} {
		checkEval(t, s, env, wanted, api.OK)
	}
	for _, s := range []string{
		"over", "under", "highest", "lowest", "top+tiny", "low-tiny", "top+top", "low+low", "top-low", "low-top", "tiny+top", "1000000000000+0.0001",
		"over*0", "z*lowest", "least(over,1)", "most(under,1)", "less(lowest,highest)", "equal(highest,highest)", "if(z,over,1)", "if(1,1,under)", "if(over,1,1)", "highest-highest", "(top+tiny)-tiny", "(top*2)*0.5",
	} {
		checkEval(t, s, env, 0, api.ErrOverflow)
	}
	checkEval(t, "z+tiny", env, 1, api.OK) // what isn't asked for may be anything
}

// TestP15_1Errors: a tree's own errors come ahead; the others node by node, as they stand.
func TestP15_1Errors(t *testing.T) {
	env := eval.Env{"a": one, "big": top, "over": top + 1}
	for s, e := range map[string]api.Errno{
		"z": api.ErrUnknown, "a+z": api.ErrUnknown, "if(1,a,z)": api.ErrUnknown, "if(0,z,a)": api.ErrUnknown, "z*0": api.ErrUnknown, "if(z,1,1)": api.ErrUnknown, "if": api.ErrUnknown, "a.b": api.ErrUnknown,
		"over+z": api.ErrOverflow, "z+over": api.ErrUnknown, "big+big+z": api.ErrOverflow, "z+(big+big)": api.ErrUnknown, "big*2-z": api.ErrOverflow, "least(z,big*2)": api.ErrUnknown,
	} {
		checkEval(t, s, env, 0, e)
	}
	for i, x := range []struct {
		nodes []expr.Node
		e     api.Errno
	}{
		{nil, api.ErrEmpty},
		{make([]expr.Node, 257), api.ErrMany},
		{[]expr.Node{name("z"), {Op: 10}}, api.ErrKind},
		{[]expr.Node{name("z"), {Op: -1}}, api.ErrKind},
		{[]expr.Node{name("z"), node(expr.Add, 0)}, api.ErrForm},
		{[]expr.Node{name("z"), node(expr.Add, 0, 0)}, api.ErrOrder},
		{[]expr.Node{name("z"), node(expr.Add, 0, 1)}, api.ErrOrder},
		{[]expr.Node{name("z"), node(expr.Add, 0, -1)}, api.ErrOrder},
		{[]expr.Node{name("z"), num(1), node(expr.Add, 0, 1)}, api.ErrRange},
		{[]expr.Node{name("z"), num(-100), node(expr.Add, 0, 1)}, api.ErrRange},
		{[]expr.Node{name("z"), name("Z"), node(expr.Add, 0, 1)}, api.ErrName},
		{[]expr.Node{name("z"), name("a")}, api.ErrForm},
		{[]expr.Node{name("z"), name("a"), node(expr.Add, 0, 1)}, api.ErrUnknown},
		{[]expr.Node{name("over"), name("z"), node(expr.Add, 1, 0)}, api.ErrOverflow},
		{[]expr.Node{name("z"), name("over"), node(expr.Add, 1, 0)}, api.ErrUnknown},
		{[]expr.Node{name("big"), name("big"), node(expr.Add, 0, 1), name("z"), node(expr.Add, 3, 2)}, api.ErrOverflow},
		{[]expr.Node{name("big"), name("big"), name("z"), node(expr.Add, 0, 1), node(expr.Add, 3, 2)}, api.ErrUnknown},
	} {
		got, e := eval.Eval(tree(x.nodes...), env)
		check(t, fmt.Sprint("value of ", i), got, 0)
		check(t, fmt.Sprint("error of ", i), e, x.e)
	}
	deep := name("z")
	nodes := []expr.Node{deep}
	for range 16 {
		nodes = append(nodes, name("a"), node(expr.Add, len(nodes)-1, len(nodes)))
	}
	_, e := eval.Eval(tree(nodes...), env)
	check(t, "error of what is too deep", e, api.ErrDeep)
}

// TestP15_1NoEnv: in an environment that is nil there is nothing.
func TestP15_1NoEnv(t *testing.T) {
	checkEval(t, "2*3", nil, 6*one, api.OK)
	checkEval(t, "2*a", nil, 0, api.ErrUnknown)
	checkAll(t, "no rules", nil, nil, eval.Env{}, api.OK)
	checkAll(t, "no rules", eval.Env{"a": 1}, nil, eval.Env{"a": 1}, api.OK)
	checkAll(t, "a rule", nil, rules(t, "x=2"), eval.Env{"x": 2 * one}, api.OK)
}

// TestP15_1ByWords holds values against the chapter's words, reckoned without a limit.
func TestP15_1ByWords(t *testing.T) {
	r := rand.New(rand.NewSource(151))
	found := map[api.Errno]int{}
	for range 60000 {
		env := someEnv(r)
		x := someTree(r, 1+r.Intn(5), names())
		if r.Intn(6) == 0 {
			x = spoilt(r, x)
		}
		wanted, wantedE := evalByWords(x, env)
		got, e := eval.Eval(x, env)
		if got != wanted || e != wantedE {
			t.Fatalf("Eval of %v with %v: %d, error %d; wanted %d, error %d", x, env, got, e, wanted, wantedE)
		}
		found[e]++
	}
	for _, e := range []api.Errno{api.OK, api.ErrUnknown, api.ErrOverflow, api.ErrEmpty, api.ErrKind, api.ErrForm, api.ErrOrder, api.ErrRange, api.ErrName} {
		check(t, fmt.Sprint("are there enough of error ", e), found[e] > 100, true)
	}
	check(t, "are there enough values", found[api.OK] > 10000, true)
}

func TestP15_1All(t *testing.T) {
	checkAll(t, "net and tax", eval.Env{"gross": 100 * one}, rules(t, "net=gross-tax, tax=gross*0.2"), eval.Env{"gross": 100 * one, "tax": 20 * one, "net": 80 * one}, api.OK)
	checkAll(t, "without gross", eval.Env{}, rules(t, "net=gross-tax, tax=gross*0.2"), nil, api.ErrUnknown)
	checkAll(t, "a long way", eval.Env{"z": one}, rules(t, "a=b+b, b=c+c, c=d+d, d=e+z, e=z*3"), eval.Env{"z": one, "e": 3 * one, "d": 4 * one, "c": 8 * one, "b": 16 * one, "a": 32 * one}, api.OK)
	strange := eval.Env{"": lowest, "Not A Name": highest, "under": -top - 1, "a": 0, strings.Repeat("n", 99): 5}
	wanted := maps.Clone(strange)
	wanted["b"] = one
	checkAll(t, "values that aren't asked for", strange, rules(t, "b=a+1"), wanted, api.OK)
	checkAll(t, "a value that is asked for", strange, rules(t, "b=a+1, c=under"), nil, api.ErrOverflow)
}

// sum is a formula of so many unlike names, which isn't too deep.
func sum(first, n int) string {
	if n == 1 {
		return "v" + strconv.Itoa(first)
	}
	return "(" + sum(first, n/2) + "+" + sum(first+n/2, n-n/2) + ")"
}

// manyRules are so many rules, each but the first one of which needs the one ahead of it.
func manyRules(t *testing.T, n int) []eval.Rule {
	var l []eval.Rule
	for i := range n {
		formula := "1"
		if i > 0 {
			formula = "1+r" + strconv.Itoa(i-1)
		}
		l = append(l, eval.Rule{Name: "r" + strconv.Itoa(i), Tree: parsed(t, formula)})
	}
	return l
}

// TestP15_1Many: at most 64 rules, each with at most 64 variables.
func TestP15_1Many(t *testing.T) {
	got, e := eval.All(nil, manyRules(t, 64)...)
	check(t, "error of 64 rules", e, api.OK)
	check(t, "the last one of 64 rules", got["r63"], 64*one)
	checkAll(t, "65 rules", nil, manyRules(t, 65), nil, api.ErrMany)
	checkAll(t, "65 rules that aren't right", eval.Env{"": 1}, make([]eval.Rule, 65), nil, api.ErrMany)
	checkAll(t, "64 rules that aren't right", eval.Env{"": 1}, make([]eval.Rule, 64), nil, api.ErrName)
	env, large := eval.Env{}, eval.Env{}
	for i := range 64 {
		env["v"+strconv.Itoa(i)] = int64(i)
	}
	maps.Copy(large, env)
	large["x"] = 2016
	checkAll(t, "64 variables", env, []eval.Rule{{Name: "x", Tree: parsed(t, sum(0, 64))}}, large, api.OK)
	checkAll(t, "65 variables", env, []eval.Rule{{Name: "x", Tree: parsed(t, sum(0, 65))}}, nil, api.ErrMany)
	checkEval(t, sum(0, 64), env, 2016, api.OK)
	env["v64"] = 64
	checkEval(t, sum(0, 65), env, 2080, api.OK)
	checkAll(t, "65 variables", env, []eval.Rule{{Name: "x", Tree: parsed(t, sum(0, 65))}}, nil, api.ErrMany)
	twice := sum(0, 64) + "*" + sum(0, 64)
	check(t, "nodes of twice the same variables", len(parsed(t, twice).Nodes), 255)
	large["x"], large["v64"] = 4, 64
	checkAll(t, "twice the same variables", env, []eval.Rule{{Name: "x", Tree: parsed(t, twice)}}, large, api.OK)
}

// TestP15_1AllErrors: rule by rule first, then those of the order, then those of the values, in the order of Sort.
func TestP15_1AllErrors(t *testing.T) {
	env := eval.Env{"a": one, "big": top, "over": top + 1}
	rule := func(name, formula string) eval.Rule { return eval.Rule{Name: name, Tree: parsed(t, formula)} }
	none := func(name string) eval.Rule { return eval.Rule{Name: name} }
	for i, x := range []struct {
		l []eval.Rule
		e api.Errno
	}{
		{[]eval.Rule{none("")}, api.ErrName},
		{[]eval.Rule{rule("A", "1")}, api.ErrName},
		{[]eval.Rule{rule("1a", "1")}, api.ErrName},
		{[]eval.Rule{rule("a b", "1")}, api.ErrName},
		{[]eval.Rule{rule("a-b", "1")}, api.ErrName},
		{[]eval.Rule{rule(strings.Repeat("n", 33), "1")}, api.ErrName},
		{[]eval.Rule{none("a")}, api.ErrTwice},
		{[]eval.Rule{rule("a", "a")}, api.ErrTwice},
		{[]eval.Rule{rule("over", "1")}, api.ErrTwice},
		{[]eval.Rule{none("x")}, api.ErrEmpty},
		{[]eval.Rule{{Name: "x", Tree: tree(num(1))}}, api.ErrRange},
		{[]eval.Rule{rule("x", "z"), none("A")}, api.ErrName},
		{[]eval.Rule{none("x"), none("A")}, api.ErrEmpty},
		{[]eval.Rule{none("a"), none("A")}, api.ErrTwice},
		{[]eval.Rule{none("A"), none("a"), none("x")}, api.ErrName},
		{[]eval.Rule{rule("x", "1"), rule("x", "2"), none("y")}, api.ErrEmpty},
		{[]eval.Rule{rule("x", "1"), rule("x", "2")}, api.ErrTwice},
		{[]eval.Rule{rule("x", "x"), rule("x", "2")}, api.ErrTwice},
		{[]eval.Rule{rule("x", sum(0, 65)), rule("y", "1"), rule("y", "2")}, api.ErrMany},
		{[]eval.Rule{rule("y", "1"), rule("y", "2"), rule("x", sum(0, 65))}, api.ErrTwice},
		{[]eval.Rule{rule("x", "y"), rule("y", "x"), rule("v", sum(0, 65))}, api.ErrMany},
		{[]eval.Rule{rule("x", "x")}, api.ErrRing},
		{[]eval.Rule{rule("c", "unknown"), rule("x", "y"), rule("y", "x")}, api.ErrRing},
		{[]eval.Rule{rule("x", "y+z"), rule("y", "if(0,x,1)")}, api.ErrRing},
		{[]eval.Rule{rule("x", "unknown")}, api.ErrUnknown},
		{[]eval.Rule{rule("x", "over")}, api.ErrOverflow},
		{[]eval.Rule{rule("y", "unknown"), rule("x", "big+big")}, api.ErrOverflow},
		{[]eval.Rule{rule("y", "big+big"), rule("x", "unknown")}, api.ErrUnknown},
		{[]eval.Rule{rule("x", "y+unknown"), rule("y", "big+big")}, api.ErrOverflow},
		{[]eval.Rule{rule("b", "y+big*2"), rule("y", "unknown")}, api.ErrUnknown},
	} {
		checkAll(t, fmt.Sprint("rules ", i), env, x.l, nil, x.e)
	}
	long := strings.Repeat("n", 32)
	checkAll(t, "a long name", nil, []eval.Rule{rule(long, "1"), rule("x_1:y.z", long)}, eval.Env{long: one, "x_1:y.z": one}, api.OK)
}

func TestP15_1AllByWords(t *testing.T) {
	r := rand.New(rand.NewSource(1511))
	found := map[api.Errno]int{}
	for range 30000 {
		env := eval.Env{"in.a": someValue(r), "in.b": someValue(r)}
		if r.Intn(24) == 0 {
			env = someEnv(r)
		}
		l := someRules(r)
		wanted, e := allByWords(env, l)
		checkAll(t, fmt.Sprint("All of ", l, " with ", env), env, l, wanted, e)
		found[e]++
		if t.Failed() {
			return
		}
	}
	for _, e := range []api.Errno{api.OK, api.ErrName, api.ErrTwice, api.ErrRing, api.ErrUnknown, api.ErrOverflow, api.ErrEmpty} {
		check(t, fmt.Sprint("are there enough of error ", e), found[e] > 20, true)
	}
}

func TestP15_2Reads(t *testing.T) {
	checkNames(t, "net and tax", eval.Reads(rules(t, "net=gross-tax, tax=gross*b")...), "b", "gross")
	checkNames(t, "of no rules", eval.Reads())
	checkNames(t, "of no variables", eval.Reads(rules(t, "x=1, y=2*3")...))
	checkNames(t, "once", eval.Reads(rules(t, "x=b+a+b*a, y=a.b+a+a_b+a:b")...), "a", "a.b", "a:b", "a_b", "b")
	checkNames(t, "of rings", eval.Reads(rules(t, "x=x+y, y=x+z, z=z, z=w")...), "w")
	wrong := eval.Rule{Name: "wrong", Tree: tree(name("a"), name("b"))}
	checkNames(t, "of a tree that isn't right", eval.Reads(wrong))
	checkNames(t, "ahead of one that is", eval.Reads(append(rules(t, "x=c+wrong"), wrong)...), "c")
	checkNames(t, "of names that are none", eval.Reads(eval.Rule{Name: "", Tree: parsed(t, "a")}, eval.Rule{Name: "B", Tree: parsed(t, "b")}), "a", "b")
	var many []eval.Rule
	var wanted []string
	for i := range 99 {
		s := "v" + strconv.Itoa(10+i)
		many = append(many, eval.Rule{Name: "x", Tree: parsed(t, s)})
		wanted = append(wanted, s)
	}
	slices.Sort(wanted)
	checkNames(t, "of many rules", eval.Reads(many...), wanted...)
	checkNames(t, "of many variables", eval.Reads(eval.Rule{Tree: parsed(t, sum(10, 90))}), parsed(t, sum(10, 90)).Vars()...)
}

func TestP15_2ByWords(t *testing.T) {
	r := rand.New(rand.NewSource(152))
	for range 5000 {
		l := someRules(r)
		checkNames(t, fmt.Sprint("Reads of ", l), eval.Reads(l...), readsByWords(l)...)
	}
}

// TestP15_3Vars: values of other names play no part.
func TestP15_3Vars(t *testing.T) {
	r := rand.New(rand.NewSource(153))
	for range 5000 {
		x := someTree(r, 4, names())
		env := someEnv(r)
		value, e := eval.Eval(x, env)
		other := someEnv(r)
		for _, s := range x.Vars() {
			delete(other, s)
			if said, ok := env[s]; ok {
				other[s] = said
			}
		}
		again, wrong := eval.Eval(x, other)
		check(t, "value in another environment", again, value)
		check(t, "error in another environment", wrong, e)
	}
}

// TestP15_3Order: the rules' order plays no part, and each name's value is its rule's.
func TestP15_3Order(t *testing.T) {
	r := rand.New(rand.NewSource(1531))
	right := 0
	for range 10000 {
		env := eval.Env{"in.a": r.Int63n(100 * one), "in.b": -r.Int63n(100 * one)}
		l := someRules(r)
		out, e := eval.All(env, l...)
		if e != api.OK {
			continue
		}
		right++
		for _, rule := range l {
			value, e := eval.Eval(rule.Tree, out)
			check(t, "value of "+rule.Name, out[rule.Name], value)
			check(t, "error of "+rule.Name, e, api.OK)
		}
		check(t, "how many values", len(out), len(env)+len(l))
		r.Shuffle(len(l), func(i, j int) { l[i], l[j] = l[j], l[i] })
		checkAll(t, "shuffled rules", env, l, out, api.OK)
	}
	check(t, "are enough of them right", right > 1000, true)
}

// TestMemory: what is handed in stays as it was, and an answer shares nothing with it.
func TestMemory(t *testing.T) {
	env := eval.Env{"gross": 100 * one}
	l := rules(t, "net=gross-tax, tax=gross*0.2")
	out, _ := eval.All(env, l...)
	checkEnv(t, "what was handed in", env, eval.Env{"gross": 100 * one})
	check(t, "the first rule", l[0].Name+"="+l[0].Tree.Text(), "net=gross-tax")
	check(t, "the second rule", l[1].Name+"="+l[1].Tree.Text(), "tax=gross*0.2")
	out["gross"], out["more"] = 1, 2
	checkEnv(t, "what was handed in, behind a change of the answer", env, eval.Env{"gross": 100 * one})
	again, _ := eval.All(env, l...)
	env["gross"] = 7
	checkEnv(t, "an answer behind a change of what was handed in", again, eval.Env{"gross": 100 * one, "tax": 20 * one, "net": 80 * one})
	same, _ := eval.All(env)
	same["gross"] = 8
	check(t, "what was handed in without rules", env["gross"], 7)
	read := eval.Reads(l...)
	read[0] = "changed"
	checkNames(t, "what is read, again", eval.Reads(l...), "gross")
	_, e := eval.All(env, append(l, eval.Rule{Name: "zz", Tree: parsed(t, "unknown")})...)
	check(t, "error", e, api.ErrUnknown)
	checkEnv(t, "what was handed in, behind an error", env, eval.Env{"gross": 7})
}
