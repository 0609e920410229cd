package net

import (
	"slices"

	"slipstick/api"
)

// mostPorts is how many ports a net may have, both ways together, and mostLetters how long a name may be.
const (
	mostPorts   = 64
	mostLetters = 20
)

// wrong tells the first error of a net but that of rings.
func wrong(n api.Net) api.Errno {
	if len(n.Nodes) > api.MostNodes || len(n.Ins)+len(n.Outs) > mostPorts {
		return api.ErrMany
	}
	ports := slices.Concat(n.Ins, n.Outs)
	switch {
	case !areFormed(n.Nodes) || !haveBits(ports, len(n.Nodes)):
		return api.ErrForm
	case !haveNames(ports):
		return api.ErrName
	case haveOneName(ports):
		return api.ErrTwice
	case !isFed(n):
		return api.ErrNone
	}
	return api.OK
}

// isKind tells whether it is the kind of a node.
func isKind(kind int) bool {
	return api.Const <= kind && kind <= api.Dff
}

// isPlace tells whether it is the place of one of so many nodes.
func isPlace(place, many int) bool {
	return 0 <= place && place < many
}

// isBit tells whether it is 0 or 1.
func isBit(v int) bool {
	return v == 0 || v == 1
}

// bare tells a node with no more than its kind has: all the rest is 0.
func bare(x api.Node) api.Node {
	switch x.Kind {
	case api.Input:
		return api.Node{Kind: x.Kind}
	case api.Const, api.Not:
		return api.Node{Kind: x.Kind, A: x.A}
	case api.And, api.Or, api.Xor, api.Dff:
		return api.Node{Kind: x.Kind, A: x.A, B: x.B}
	}
	return x
}

// isFormed tells whether a node, among so many, is as its kind asks.
func isFormed(x api.Node, many int) bool {
	if !isKind(x.Kind) || x != bare(x) {
		return false
	}
	places, uses := used(x)
	for _, place := range places[:uses] {
		if !isPlace(place, many) {
			return false
		}
	}
	switch x.Kind {
	case api.Const:
		return isBit(x.A)
	case api.Dff:
		return isBit(x.B)
	}
	return true
}

// areFormed tells whether all nodes are as their kinds ask.
func areFormed(nodes []api.Node) bool {
	for _, x := range nodes {
		if !isFormed(x, len(nodes)) {
			return false
		}
	}
	return true
}

// haveBits tells whether all ports have bits, each the place of one of so many nodes.
func haveBits(ports []api.Port, many int) bool {
	for _, p := range ports {
		if len(p.Bits) == 0 {
			return false
		}
		for _, place := range p.Bits {
			if !isPlace(place, many) {
				return false
			}
		}
	}
	return true
}

// isLetter tells whether it is a small letter.
func isLetter(c byte) bool {
	return 'a' <= c && c <= 'z'
}

// isDigit tells whether it is a digit.
func isDigit(c byte) bool {
	return '0' <= c && c <= '9'
}

// Name tells whether a text is a name.
func Name(s string) bool {
	if len(s) == 0 || len(s) > mostLetters || !isLetter(s[0]) {
		return false
	}
	for i := range len(s) {
		if !isLetter(s[i]) && !isDigit(s[i]) && s[i] != '_' {
			return false
		}
	}
	switch s {
	case "module", "endmodule", "input", "output", "wire", "assign", "clk", "rst":
		return false
	}
	return true
}

// haveNames tells whether all ports' names may be.
func haveNames(ports []api.Port) bool {
	for _, p := range ports {
		if !Name(p.Name) {
			return false
		}
	}
	return true
}

// haveOneName tells whether two ports have one name.
func haveOneName(ports []api.Port) bool {
	for i, p := range ports {
		for _, q := range ports[:i] {
			if p.Name == q.Name {
				return true
			}
		}
	}
	return false
}

// isFed tells whether the bits that come in are the Inputs, each one just once.
func isFed(n api.Net) bool {
	comes := make([]bool, len(n.Nodes))
	for _, p := range n.Ins {
		for _, place := range p.Bits {
			if n.Nodes[place].Kind != api.Input || comes[place] {
				return false
			}
			comes[place] = true
		}
	}
	for place, x := range n.Nodes {
		if x.Kind == api.Input && !comes[place] {
			return false
		}
	}
	return true
}
