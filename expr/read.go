package expr

import (
	"wagebook/api"
	"wagebook/lex"
)

// bracket stands for a bracket that no call begins with, where calls have their Op.
const bracket = -1

// pending is a sign, a bracket or a call, the end of which wasn't read yet; and how many sums, parted by commas, a bracket or a call still has to hold (a sign: none).
type pending struct {
	op   int
	sums int
}

// reader is what was read of a formula: its nodes, those of them that are nobody's kid so far, and what is open around the next token; and whether that must begin a factor.
type reader struct {
	nodes []Node
	loose []int
	open  []pending
	due   bool
}

// read is the nodes of a formula; beside an error there are none, but the place of what is wrong.
func read(tokens []lex.Token) ([]Node, int, api.Errno) {
	r := reader{due: true}
steps:
	for i := 0; i < len(tokens); i++ {
		token := tokens[i]
		var fits bool
		switch {
		case r.due && beginsCall(tokens[i:]):
			op, known := opOf(token)
			if !known {
				return nil, token.At, api.ErrUnknown
			}
			r.open = append(r.open, pending{op, shapes[op].kids})
			i++ // its bracket is read with it
			continue steps
		case r.due:
			fits = r.begin(token)
		case token.Kind == lex.End && r.isWhole():
			break steps
		default:
			fits = r.goOn(token)
		}
		if !fits {
			return nil, token.At, api.ErrForm
		}
	}
	return r.nodes, 0, api.OK
}

// begin takes a token that no call begins with, where a factor must begin; it tells whether that one may stand there.
func (r *reader) begin(token lex.Token) bool {
	switch {
	case token.Kind == lex.Number:
		n, _ := lex.NumberOf(token.Text)
		r.put(Node{Op: Num, Num: n})
	case token.Kind == lex.Name:
		r.put(Node{Op: Var, Name: token.Text})
	case token.Text == "(":
		r.open = append(r.open, pending{bracket, 1})
		return true
	default:
		return false
	}
	r.due = false
	return true
}

// goOn takes a token behind a factor; it tells whether that one may stand there.
func (r *reader) goOn(token lex.Token) bool {
	if token.Kind != lex.Sign {
		return false
	}
	switch token.Text {
	case ",":
		return r.comma()
	case ")":
		return r.end()
	}
	op, known := opOf(token)
	if !known {
		return false
	}
	r.close(shapes[op].rank)
	r.open = append(r.open, pending{op: op})
	r.due = true
	return true
}

// comma ends a sum of a call that isn't the call's last one; it tells whether there is such a call.
func (r *reader) comma() bool {
	r.close(sum)
	last := len(r.open) - 1
	if last < 0 || r.open[last].sums <= 1 {
		return false
	}
	r.open[last].sums--
	r.due = true
	return true
}

// end ends a bracket, or a call that has all of its sums; it tells whether there is such a one.
func (r *reader) end() bool {
	r.close(sum)
	last := len(r.open) - 1
	if last < 0 || r.open[last].sums > 1 {
		return false
	}
	if op := r.open[last].op; op != bracket {
		r.put(Node{Op: op})
	}
	r.open = r.open[:last]
	return true
}

// isWhole ends a formula behind a factor; it tells whether no bracket and no call is open there.
func (r *reader) isWhole() bool {
	r.close(sum)
	return len(r.open) == 0
}

// close makes nodes of the open signs of a rank, and of those above it, up to the bracket or the call around them.
func (r *reader) close(rank int) {
	for last := len(r.open) - 1; last >= 0; last-- {
		p := r.open[last]
		if p.sums > 0 || shapes[p.op].rank < rank {
			return
		}
		r.put(Node{Op: p.op})
		r.open = r.open[:last]
	}
}

// put adds a node, whose kids are the last ones of those that are loose.
func (r *reader) put(n Node) {
	ahead := len(r.loose) - shapes[n.Op].kids
	n.Kids = append([]int(nil), r.loose[ahead:]...)
	r.loose = append(r.loose[:ahead], len(r.nodes))
	r.nodes = append(r.nodes, n)
}

// beginsCall tells whether the first one of the tokens is a name right ahead of a bracket.
func beginsCall(tokens []lex.Token) bool {
	return tokens[0].Kind == lex.Name && tokens[1].Text == "(" // behind a name there is another token, as the End is the last one
}

// opOf is the Op of the sign that a token is, or of the call that it names, if it is one of them.
func opOf(token lex.Token) (int, bool) {
	for op, own := range shapes {
		if own.kind == token.Kind && own.word == token.Text {
			return op, true
		}
	}
	return 0, false
}
