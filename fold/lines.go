package fold

import "slipstick/api"

// constant is a Const.
func constant(v int) api.Node { return api.Node{Kind: api.Const, A: v} }

// not is a Not.
func not(a int) api.Node { return api.Node{Kind: api.Not, A: a} }

// isConst tells whether a node is the Const of a value.
func (f *folder) isConst(at, v int) bool { return f.nodes[at] == constant(v) }

// areTurned tells whether one of two nodes is a Not of the other one.
func (f *folder) areTurned(a, b int) bool {
	return f.nodes[a] == not(b) || f.nodes[b] == not(a)
}

// line tells what the first line that holds says of a node: as what it is looked at again, or, where that is as it is, which one stands for it.
func (f *folder) line(x api.Node, at int) (api.Node, int) {
	switch x.Kind {
	case api.Not:
		return f.not(x, at)
	case api.And:
		return f.andOr(x, at, 0)
	case api.Or:
		return f.andOr(x, at, 1)
	case api.Xor:
		return f.xor(x, at)
	case api.Mux:
		return f.mux(x, at)
	}
	return x, at
}

// not tells it of a Not.
func (f *folder) not(x api.Node, at int) (api.Node, int) {
	switch a := f.nodes[x.A]; a.Kind {
	case api.Const:
		return constant(1 - a.A), at
	case api.Not:
		return x, a.A
	}
	return x, at
}

// andOr tells it of an And, or of an Or: of either one value rules, whatever the other bit is, and the other value is as none.
func (f *folder) andOr(x api.Node, at, rules int) (api.Node, int) {
	switch {
	case f.isConst(x.A, rules), f.isConst(x.B, rules):
		return constant(rules), at
	case f.isConst(x.A, 1-rules):
		return x, x.B
	case f.isConst(x.B, 1-rules), x.A == x.B:
		return x, x.A
	case f.areTurned(x.A, x.B):
		return constant(rules), at
	}
	return x, at
}

// xor tells it of a Xor.
func (f *folder) xor(x api.Node, at int) (api.Node, int) {
	switch {
	case x.A == x.B:
		return constant(0), at
	case f.isConst(x.A, 0):
		return x, x.B
	case f.isConst(x.B, 0):
		return x, x.A
	case f.isConst(x.A, 1):
		return not(x.B), at
	case f.isConst(x.B, 1):
		return not(x.A), at
	case f.areTurned(x.A, x.B):
		return constant(1), at
	}
	return x, at
}

// mux tells it of a Mux.
func (f *folder) mux(x api.Node, at int) (api.Node, int) {
	switch {
	case f.isConst(x.C, 1):
		return x, x.B
	case f.isConst(x.C, 0), x.A == x.B:
		return x, x.A
	case f.isConst(x.A, 0) && f.isConst(x.B, 1):
		return x, x.C
	case f.isConst(x.A, 1) && f.isConst(x.B, 0):
		return not(x.C), at
	case f.isConst(x.A, 0):
		return api.Node{Kind: api.And, A: x.B, B: x.C}, at
	case f.isConst(x.B, 1):
		return api.Node{Kind: api.Or, A: x.A, B: x.C}, at
	}
	return x, at
}
