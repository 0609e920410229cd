package sim_test

import (
	"reflect"
	"slices"
	"testing"

	"slipstick/api"
	"slipstick/nat"
	"slipstick/probe"
	"slipstick/sim"
)

// Each error of nets that may not be, each of which has the faults behind its own too.
func TestNetsThatMayNotBe(t *testing.T) {
	for i, n := range probe.Wrong() {
		want := probe.Errors()[i]
		if s, e := sim.New(n); e != want || s != nil {
			t.Errorf("New of %s: %v, %d, want %d", show(n), s, e, want)
		}
		for _, script := range [][][]nat.Nat{nil, {nil}, {small(1)}, {small(2)}, {small(1, 1)}} {
			if told, e := sim.Run(n, script); e != want || len(told) != 0 {
				t.Errorf("Run of %s: %v, %d, want %d", show(n), told, e, want)
			}
		}
	}
}

// counter is a net that counts by what comes in, and tells a word beside it.
func counter() api.Net {
	return api.Net{
		Nodes: []api.Node{input(), dff(3, 1), dff(4, 0), xor(0, 1), xor(2, 5), and(0, 1), input(), input()},
		Ins:   []api.Port{port("up", 0), port("a", 6, 7)},
		Outs:  []api.Port{port("n", 1, 2), port("z", 7, 6)},
	}
}

// refused holds Step and Peek of wrong numbers against ErrSize: the state stays.
func refused(t *testing.T, s *sim.Sim, ins []nat.Nat) {
	t.Helper()
	state := s.State()
	if outs, e := s.Step(ins); e != api.ErrSize || len(outs) != 0 {
		t.Errorf("Step of %v: %v, %d", ins, outs, e)
	}
	is(t, s, state...)
	if outs, e := s.Peek(ins); e != api.ErrSize || len(outs) != 0 {
		t.Errorf("Peek of %v: %v, %d", ins, outs, e)
	}
	is(t, s, state...)
}

// wrongIns are no lists of numbers that counter takes.
func wrongIns() [][]nat.Nat {
	return [][]nat.Nat{
		nil, {}, small(1), small(0), small(1, 1, 1), small(0, 0, 0), {nil}, {nil, nil, nil},
		small(2, 1), small(1, 4), small(3, 0), small(0, 5), small(2, 4), small(0, 1<<31),
		{{0, 1}, nil}, {nil, {0, 1}}, {nil, {3, 0, 0, 1, 0}}, {nat.Of(1 << 63), nil}, {make(nat.Nat, 2000), append(make(nat.Nat, 2000), 1)},
	}
}

func TestWrongSizes(t *testing.T) {
	s := made(t, counter())
	for _, ins := range wrongIns() {
		refused(t, s, ins)
	}
	steps(t, s, small(1, 1), small(1, 2))
	is(t, s, 0, 1)
	for _, ins := range wrongIns() {
		refused(t, s, ins)
	}
	steps(t, s, small(1, 3), small(2, 3))
	is(t, s, 1, 1)
	s = made(t, of(one(1), dff(0, 0)))
	for _, ins := range [][]nat.Nat{{nil}, small(0), small(1), {nil, nil}} {
		refused(t, s, ins)
	}
	// One bit more than the port has, at the edges of parts.
	for _, width := range []int{1, 31, 32, 33, 64, 65, 200} {
		s := made(t, wide(width))
		over := slices.Concat(make([]int, width), []int{1})
		refused(t, s, []nat.Nat{number(over)})
		refused(t, s, []nat.Nat{append(number(over), 0, 0)})
		most := number(slices.Repeat([]int{1}, width))
		if _, e := s.Step([]nat.Nat{append(most, 0)}); e != api.OK {
			t.Errorf("Step of %d bits: %d", width, e)
		}
	}
}

// Wrong numbers in the midst of a script: Step's first error, and nothing beside it.
func TestWrongScripts(t *testing.T) {
	good := small(1, 2)
	for _, ins := range wrongIns() {
		for _, script := range [][][]nat.Nat{{ins}, {good, ins}, {ins, good}, {good, good, ins, good}, {good, ins, nil}} {
			if told, e := sim.Run(counter(), script); e != api.ErrSize || len(told) != 0 {
				t.Errorf("Run of %v: %v, %d", script, told, e)
			}
		}
	}
	if told, e := sim.Run(counter(), [][]nat.Nat{good, {nil, nil}, {{1, 0}, {3, 0}}}); e != api.OK || len(told) != 3 {
		t.Errorf("Run of numbers that may be: %v, %d", told, e)
	}
}

func TestNetStays(t *testing.T) {
	n := counter()
	s, other := made(t, n), made(t, n)
	steps(t, s, small(1, 1), small(1, 2))
	probe.Scribble(n)
	steps(t, s, small(1, 2), small(2, 1))
	is(t, s, 1, 1)
	s.Reset()
	is(t, s, 1, 0)
	steps(t, s, small(1, 1), small(1, 2))
	is(t, other, 1, 0)
	steps(t, other, small(0, 1), small(1, 2))
}

// What is told is the caller's to change.
func TestAnswersAreNew(t *testing.T) {
	n := counter()
	s := made(t, n)
	spoil := func(outs []nat.Nat, e api.Errno) {
		for i := range outs {
			for k := range outs[i] {
				outs[i][k] = 99
			}
			outs[i] = nat.Of(7)
		}
	}
	for range 2 {
		spoil(s.Peek(small(1, 3)))
		spoil(s.Step(small(0, 3)))
		is(t, s, 1, 0)
		state := s.State()
		state[0], state[1] = 5, 5
		is(t, s, 1, 0)
		peeks(t, s, small(1, 3), small(1, 3))
	}
	script := [][]nat.Nat{small(1, 3), small(1, 3)}
	told, _ := sim.Run(n, script)
	spoil(told[0], 0)
	if want := [][]nat.Nat{small(2, 3)}; !slices.EqualFunc(told[1:], want, same) {
		t.Errorf("Run: %v", told)
	}
	again, _ := sim.Run(n, script)
	if want := [][]nat.Nat{small(1, 3), small(2, 3)}; !slices.EqualFunc(again, want, same) {
		t.Errorf("Run again: %v", again)
	}
}

func TestArgumentsStay(t *testing.T) {
	n := probe.Ordinary()
	script := scripted(probe.NewRule(5).Script(n, 9))
	script[3] = []nat.Nat{{1, 0, 0}, nil}
	copied := make([][]nat.Nat, len(script))
	for i := range script {
		for _, v := range script[i] {
			copied[i] = append(copied[i], slices.Clone(v))
		}
	}
	if _, e := sim.Run(n, script); e != api.OK {
		t.Fatalf("Run: %d", e)
	}
	s := made(t, n)
	for _, ins := range script {
		s.Peek(ins)
		s.Step(ins)
	}
	if !reflect.DeepEqual(n, probe.Ordinary()) || !reflect.DeepEqual(script, copied) {
		t.Error("an argument was changed")
	}
}

// Numbers that came in may be changed behind a cycle.
func TestNumbersAreNotKept(t *testing.T) {
	s := made(t, wide(40))
	ins := []nat.Nat{{5, 1}}
	s.Step(ins)
	ins[0][0], ins[0][1] = 0, 0
	if outs, e := s.Step(ins); e != api.OK || !slices.Equal(outs[1], nat.Nat{5, 1}) {
		t.Errorf("%v, %d", outs, e)
	}
}

// P7.3

// Two simulators of one state tell the same from there on, however they came to it, and peeking changes nothing.
func TestStateTellsAll(t *testing.T) {
	r := probe.NewRule(11)
	for range 60 {
		n := r.Net(1+r.Below(5), 1+r.Below(6), 1+r.Below(30))
		known := map[string][]nat.Nat{}
		s := made(t, n)
		for range 200 {
			ins := numbers(r.Script(n, 1)[0])
			key := string(bytesOf(s.State())) + string(bytesOf(parts(ins)))
			peeked, _ := s.Peek(ins)
			for range r.Below(3) {
				s.Peek(numbers(r.Script(n, 1)[0]))
			}
			outs, e := s.Step(ins)
			told := append(outs, small(uint32(probe.Number(s.State())))...)
			if want, ok := known[key]; ok && !same(told, want) || e != api.OK || !same(outs, peeked) {
				t.Errorf("%s: in %v, %v, then %v", show(n), ins, want, told)
				return
			}
			known[key] = told
			if r.Below(20) == 0 {
				s.Reset()
			}
		}
	}
}

// bytesOf is bits as a text's bytes.
func bytesOf(bits []int) []byte {
	var all []byte
	for _, v := range bits {
		all = append(all, byte(v))
	}
	return all
}

// parts are numbers of up to 8 bits.
func parts(ins []nat.Nat) []int {
	var all []int
	for _, n := range ins {
		v, _ := n.Word()
		all = append(all, int(v))
	}
	return all
}

func TestResetIsAsAtFirst(t *testing.T) {
	r := probe.NewRule(13)
	for range 60 {
		n := r.Net(r.Below(6), 1+r.Below(9), 1+r.Below(30))
		script := scripted(r.Script(n, 12))
		want, e := sim.Run(n, script)
		if e != api.OK {
			t.Fatalf("Run of %s: %d", show(n), e)
		}
		s := made(t, n)
		first := s.State()
		for many := range 10 {
			for _, ins := range script[:many] {
				s.Step(ins)
			}
			s.Reset()
			is(t, s, first...)
			s.Reset()
			for i, ins := range script {
				steps(t, s, ins, want[i])
			}
			s.Reset()
		}
	}
}
