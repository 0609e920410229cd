package vread

import (
	"slices"

	"slipstick/api"
	"slipstick/vlex"
)

// fault is what is panicked with: the line of the first token that is wrong.
type fault int

// reader reads tokens, one by one, and lays what they tell to a net.
type reader struct {
	tokens []vlex.Token // those to come
	last   int          // the line of the last one of all
	net    api.Net
	most   []int // of each port that goes out its highest bit
	wires  int
}

// newReader tells a reader of tokens, ahead of the first one.
func newReader(tokens []vlex.Token) *reader {
	r := &reader{tokens: tokens, last: 1}
	if len(tokens) > 0 {
		r.last = tokens[len(tokens)-1].Line
	}
	return r
}

// take tells the next token, and goes on behind it; it must be one that may stand there.
func (r *reader) take(may func(t vlex.Token) bool) vlex.Token {
	if len(r.tokens) == 0 {
		panic(fault(r.last))
	}
	t := r.tokens[0]
	if !may(t) {
		panic(fault(t.Line))
	}
	r.tokens = r.tokens[1:]
	return t
}

// one tells the text of the next token, which must be one of some.
func (r *reader) one(texts ...string) string {
	return r.take(func(t vlex.Token) bool { return slices.Contains(texts, t.Text) }).Text
}

// texts goes on behind tokens of these texts.
func (r *reader) texts(texts ...string) {
	for _, text := range texts {
		r.one(text)
	}
}

// number tells the next token's number, which must be one that may stand there.
func (r *reader) number(may func(v int) bool) int {
	return r.take(func(t vlex.Token) bool { return t.Kind == vlex.Number && may(t.Value) }).Value
}

// isNext tells whether the next token is of this text.
func (r *reader) isNext(text string) bool {
	return len(r.tokens) > 0 && r.tokens[0].Text == text
}

// end goes on where there are no more tokens.
func (r *reader) end() {
	if len(r.tokens) > 0 {
		panic(fault(r.tokens[0].Line))
	}
}
