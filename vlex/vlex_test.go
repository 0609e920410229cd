package vlex_test

import (
	"fmt"
	"math"
	"slices"
	"strconv"
	"strings"
	"testing"

	"slipstick/api"
	"slipstick/probe"
	"slipstick/vlex"
)

// P24.1

// The chapter's example.
func TestExample(t *testing.T) {
	want := []vlex.Token{{vlex.Word, "assign", 0, 1}, {vlex.Word, "N4", 0, 1}, {vlex.Sign, "=", 0, 1}, {vlex.Word, "a", 0, 1}, {vlex.Sign, "[", 0, 1}, {vlex.Number, "0", 0, 1}, {vlex.Sign, "]", 0, 1}, {vlex.Sign, ";", 0, 1}}
	if got := lexes(t, "assign N4 = a[0];"); !slices.Equal(got, want) {
		t.Errorf("%v", got)
	}
}

func TestKinds(t *testing.T) {
	if vlex.Bit != 1 || vlex.Number != 2 || vlex.Word != 3 || vlex.Sign != 4 {
		t.Error("other kinds")
	}
}

// all is tokens of each kind, at their edges.
func all() []vlex.Token {
	l := []vlex.Token{{vlex.Bit, "1'b0", 0, 1}, {vlex.Bit, "1'b1", 1, 1}}
	for _, v := range []int{0, 1, 9, 10, 12, 99, 100, 262143, 1000000, 9999999} {
		l = append(l, vlex.Token{Kind: vlex.Number, Text: strconv.Itoa(v), Value: v, Line: 1})
	}
	for _, s := range []string{"a", "z", "A", "Z", "_", "N4", "N", "module", "b0", "b1", "a1b2", "__", "_0", "x9_", "aZ_09", strings.Repeat("w", 1000)} {
		l = append(l, vlex.Token{Kind: vlex.Word, Text: s, Line: 1})
	}
	for _, c := range "()[]:;,?=" {
		l = append(l, vlex.Token{Kind: vlex.Sign, Text: string(c), Line: 1})
	}
	return l
}

// Each token alone, with all that may stand beside it.
func TestEachToken(t *testing.T) {
	for _, want := range all() {
		for ahead, line := range map[string]int{"": 1, " ": 1, "\t": 1, "\n": 2, "\n\n \t\n": 4, "// a\n": 2, "//": 0, "//\n//\n": 3} {
			for _, behind := range []string{"", " ", "\t", "\n", "\n\n", "//", "// b", "//\n", " // 'x' ~\n\t"} {
				s := ahead + want.Text + behind
				check(t, s)
				token := want
				token.Line = line
				if got := lexes(t, s); line > 0 && !slices.Equal(got, []vlex.Token{token}) || line == 0 && len(got) != 0 {
					t.Errorf("Lex of %q: %v, want %v", s, got, token)
				}
			}
		}
	}
}

// Each token beside each other one: apart they are both, on one line and on two; together they are both where they can be told apart, one where they are, else none.
func TestEachPair(t *testing.T) {
	for _, p := range all() {
		for _, q := range all() {
			for between, line := range map[string]int{" ": 1, "\t": 1, "\n": 2, " \n\t\n ": 3, "//x\n": 2, "//\n\n": 3} {
				second := q
				second.Line = line
				if got := lexes(t, p.Text+between+q.Text); !slices.Equal(got, []vlex.Token{p, second}) {
					t.Errorf("Lex of %q: %v", p.Text+between+q.Text, got)
				}
			}
			s := p.Text + q.Text
			check(t, s)
			got, at, e := vlex.Lex(s)
			both := slices.Equal(got, []vlex.Token{p, q})
			switch {
			case p.Kind == vlex.Sign || q.Kind == vlex.Sign:
				if !both {
					t.Errorf("Lex of %q: %v, %d, %d", s, got, at, e)
				}
			case p.Kind == vlex.Word && q.Kind != vlex.Bit:
				if len(got) != 1 || got[0].Text != s || e != api.OK {
					t.Errorf("Lex of %q: %v, %d, %d", s, got, at, e)
				}
			case both || q.Kind == vlex.Word && e == api.OK:
				t.Errorf("Lex of %q: %v, %d, %d", s, got, at, e)
			}
		}
	}
}

// refused holds a text that has what is no token, and its line.
func refused(t *testing.T, s string, line int) {
	t.Helper()
	check(t, s)
	if got, at, e := vlex.Lex(s); e != api.ErrForm || at != line || len(got) != 0 {
		t.Errorf("Lex of %q: %v, %d, %d; want line %d", s, got, at, e, line)
	}
}

// Each byte that begins no token, alone, beside others, and on other lines; within a comment each may stand.
func TestEachByte(t *testing.T) {
	for c := range 256 {
		b := string([]byte{byte(c)})
		check(t, b)
		check(t, "a"+b)
		check(t, b+"a")
		check(t, "1"+b)
		check(t, "1'b1"+b)
		check(t, "1'"+b)
		check(t, "/"+b)
		if got := lexes(t, "a //"+b+"\nb"); len(got) != 2 && c != '\n' {
			t.Errorf("a comment of %q: %v", b, got)
		}
		letter := c >= 'a' && c <= 'z' || c >= 'A' && c <= 'Z' || c == '_'
		if letter || c >= '0' && c <= '9' || strings.Contains("()[]:;,?= \t\n", b) && c < 0x80 {
			continue
		}
		for s, line := range map[string]int{b: 1, "a" + b: 1, "a " + b: 1, b + "\na": 1, "\n" + b: 2, "a\nb\n\n" + b + " c": 4, "// x\n" + b: 2, "a;" + b + ";": 1, b + " " + b: 1} {
			refused(t, s, line)
		}
	}
}

func TestLimits(t *testing.T) {
	for s, line := range map[string]int{
		"10000000": 1, "12345678": 1, "99999999999999999999": 1, "00": 1, "01": 1, "007": 1, "0000000": 1, "00000000": 1, "\n01": 2,
		"1a": 1, "1_": 1, "1'": 1, "12'b0": 1, "0'b0": 1, "11'b0": 1, "1'b": 1, "1'b2": 1, "1'B0": 1, "1'b00": 1, "1'b0a": 1, "1'b1_": 1, "1'b1'": 1, "1'b1'b1": 1, "1 'b0": 1, "'b0": 1, "1' b0": 1, "1'\nb0": 1, "a\n1'b\n0": 2,
		"/": 1, "/ /": 1, "a / b": 1, "/*x*/": 1, "a\n/": 2, "\r": 1, "a\r\n": 1, "a\n\r\n": 2, "a\v": 1, "\f": 1, "\x00": 1, "a-1": 1, "-1": 1, "~a": 1, "a.b": 1, "{": 1, "\"a\"": 1, "`a": 1, "$a": 1, "a$": 1, "\u00a0": 1, "\u00e9": 1, "a\n\n\u00e9": 3, "#1": 1, "a==b&c": 1,
	} {
		refused(t, s, line)
	}
	for s, many := range map[string]int{"": 0, " ": 0, "\n\n\n": 0, "//": 0, "//\n": 0, "// ~ 01 'x'": 0, "\t// a\n \n//b": 0, "9999999": 1, "1'b0": 1, "1'b1;": 2, "0": 1, "0;0,0": 5, "a//b": 1, "a// b\nc": 2, "1// b\nc": 2, "1'b0//c": 1, "==": 2, "///": 0, "a///b\nc": 2} {
		check(t, s)
		if got := lexes(t, s); len(got) != many {
			t.Errorf("Lex of %q: %v", s, got)
		}
	}
}

// What is wrong first is told, though more is wrong behind it; what is right ahead of it isn't told.
func TestFirstLineOfWhatIsWrong(t *testing.T) {
	refused(t, "a b\nc ~\n01", 2)
	refused(t, "a b\n// ~\nc 01 ~", 3)
	s := strings.Repeat("assign N4 = a[0]; // x\n", 1000)
	for _, wrong := range []string{"~", "01", "1'b2", "/", "12345678"} {
		refused(t, s+wrong, 1001)
		refused(t, s+"\n\n"+wrong+s, 1003)
	}
	if got := lexes(t, s); len(got) != 8000 || got[7999].Line != 1000 {
		t.Errorf("%d tokens", len(got))
	}
}

func TestMixedTexts(t *testing.T) {
	r := probe.NewRule(24)
	pieces := []string{"1", "0", "'", "b", "1'b0", "1'b1", " ", "\n", "\t", "//", "/", "a", "Z", "_", "N12", "(", "]", ";", "=", "~", "\u00e9", "9999999", "7"}
	for range 200000 {
		check(t, mixed(r, pieces, r.Below(8)))
	}
	for range 20000 {
		// Without what begins no token.
		check(t, mixed(r, []string{" ", "\n", "// x\n", "a", "N1 ", "1'b0 ", "12 ", ";", "(", "=", "?"}, r.Below(60)))
	}
}

// P24.2

func TestNames(t *testing.T) {
	for _, i := range []int{0, 1, 9, 10, 99, 262143, 262144, 9999999, 10000000, 1 << 40, math.MaxInt} {
		if got := vlex.Names(i); got != fmt.Sprintf("N%d", i) {
			t.Errorf("Names of %d: %q", i, got)
		}
	}
	for _, i := range []int{-1, -2, -262144, math.MinInt} {
		if got := vlex.Names(i); got != "" {
			t.Errorf("Names of %d: %q", i, got)
		}
	}
}

func TestName(t *testing.T) {
	hold := func(i int) {
		if got, ok := vlex.Name(vlex.Names(i)); got != i || !ok {
			t.Errorf("Name of %q: %d, %v", vlex.Names(i), got, ok)
		}
	}
	for i := range 100000 {
		hold(i)
		hold(9999999 - i)
	}
	for _, s := range []string{"", "N", "n0", "n1", "M1", "1", "0", "N00", "N01", "N007", "N-1", "N+1", "N1_", "N1a", "NN1", "N 1", " N1", "N1 ", "N1\n", "N10000000", "N12345678", "N00000001", "N99999999999999999999", "N1'", "N\u0661", "N1.0", "N0x1", "N1_0", "N1e1", "_N1", "N\x00", "N1\x00"} {
		if got, ok := vlex.Name(s); got != 0 || ok {
			t.Errorf("Name of %q: %d, %v", s, got, ok)
		}
	}
}

// P24.3

// Tokens, a space between two, are the same again; and the tokens of two texts, one behind the other, are those of both.
func TestAgain(t *testing.T) {
	r := probe.NewRule(243)
	pieces := []string{" ", "\n", "// x\n", "\t", "a ", "N1 ", "_9 ", "1'b0 ", "1'b1 ", "12 ", "0 ", ";", "(", "=", "?", ":", "]"}
	for range 5000 {
		one, two := mixed(r, pieces, r.Below(30)), mixed(r, pieces, r.Below(30))
		first, second := lexes(t, one), lexes(t, two)
		var texts []string
		for i, token := range first {
			texts = append(texts, token.Text)
			first[i].Line = 1
		}
		if got := lexes(t, strings.Join(texts, " ")); !slices.Equal(got, first) {
			t.Fatalf("%q, again: %v, want %v", one, got, first)
		}
		first = lexes(t, one)
		for i := range second {
			second[i].Line += strings.Count(one, "\n") + 1
		}
		if got := lexes(t, one+"\n"+two); !slices.Equal(got, slices.Concat(first, second)) {
			t.Fatalf("%q and %q: %v", one, two, got)
		}
	}
}

// A long text, and long tokens, comments and spaces.
func TestLongTexts(t *testing.T) {
	long := strings.Repeat("x", 1<<20)
	if got := lexes(t, long+"//"+long+"\n"+strings.Repeat("\n ", 1<<20)+long); len(got) != 2 || got[1].Line != 1<<20+2 || got[1].Text != long {
		t.Errorf("%d tokens", len(got))
	}
	if got, line, e := vlex.Lex(strings.Repeat("1", 1<<20)); e != api.ErrForm || line != 1 || len(got) != 0 {
		t.Errorf("a long number: %d, %d", line, e)
	}
	if got := lexes(t, strings.Repeat("1'b0;", 1<<18)); len(got) != 1<<19 {
		t.Errorf("%d tokens", len(got))
	}
}
