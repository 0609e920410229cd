package sim_test

import (
	"slices"
	"testing"

	"slipstick/api"
	"slipstick/nat"
	"slipstick/probe"
	"slipstick/sim"
)

var one, input, not, and, or, xor, mux, dff, port, of, show = probe.One, probe.Input, probe.Not, probe.And, probe.Or, probe.Xor, probe.Mux, probe.Dff, probe.Port, probe.Of, probe.Show

// number is a word's number, without parts 0 at its end.
func number(word []int) nat.Nat {
	var n nat.Nat
	for len(word) > 0 {
		part := word[:min(32, len(word))]
		n = append(n, uint32(probe.Number(part)))
		word = word[len(part):]
	}
	for len(n) > 0 && n[len(n)-1] == 0 {
		n = n[:len(n)-1]
	}
	return n
}

// numbers are a cycle's.
func numbers(words [][]int) []nat.Nat {
	var all []nat.Nat
	for _, word := range words {
		all = append(all, number(word))
	}
	return all
}

// scripted are a script's.
func scripted(script [][][]int) [][]nat.Nat {
	var all [][]nat.Nat
	for _, words := range script {
		all = append(all, numbers(words))
	}
	return all
}

// small are numbers of one part.
func small(all ...uint32) []nat.Nat {
	ns := make([]nat.Nat, len(all))
	for i, v := range all {
		ns[i] = nat.Of(uint64(v))
	}
	return ns
}

// same tells whether numbers are the same, part by part.
func same(a, b []nat.Nat) bool {
	return slices.EqualFunc(a, b, func(p, q nat.Nat) bool { return slices.Equal(p, q) })
}

// made is New of a net that may be.
func made(t *testing.T, n api.Net) *sim.Sim {
	t.Helper()
	s, e := sim.New(n)
	if e != api.OK || s == nil {
		t.Fatalf("New of %s: %d", show(n), e)
	}
	return s
}

// steps holds a Step against what is wanted.
func steps(t *testing.T, s *sim.Sim, ins, want []nat.Nat) {
	t.Helper()
	if outs, e := s.Step(ins); e != api.OK || !same(outs, want) {
		t.Errorf("Step of %v: %v, %d, want %v", ins, outs, e, want)
	}
}

// peeks holds a Peek against what is wanted, and the state against what it was.
func peeks(t *testing.T, s *sim.Sim, ins, want []nat.Nat) {
	t.Helper()
	state := s.State()
	if outs, e := s.Peek(ins); e != api.OK || !same(outs, want) {
		t.Errorf("Peek of %v: %v, %d, want %v", ins, outs, e, want)
	}
	is(t, s, state...)
}

// is holds the state against what is wanted.
func is(t *testing.T, s *sim.Sim, want ...int) {
	t.Helper()
	if state := s.State(); !slices.Equal(state, want) {
		t.Errorf("State: %v, want %v", state, want)
	}
}

// runs holds all that is told of a net's script against the document's words: by Run, and cycle by cycle, each first peeked at.
func runs(t *testing.T, n api.Net, script [][][]int) {
	t.Helper()
	want := scripted(probe.Told(n, script))
	told, e := sim.Run(n, scripted(script))
	if e != api.OK || !slices.EqualFunc(told, want, same) {
		t.Errorf("Run of %s, %v: %v, %d, want %v", show(n), script, told, e, want)
		return
	}
	s := made(t, n)
	for i, words := range script {
		peeks(t, s, numbers(words), want[i])
		steps(t, s, numbers(words), want[i])
	}
}

// every is all cycles of so many bits that come in by one port, and one more, so that each is seen behind another.
func every(width int) [][][]int {
	var script [][][]int
	for v := range 1 << width {
		script = append(script, [][]int{probe.Bits(uint64(v), width)})
	}
	return append(script, script[0])
}
