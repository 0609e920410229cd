package vlex_test

import (
	"regexp"
	"slices"
	"strconv"
	"strings"
	"testing"

	"slipstick/api"
	"slipstick/probe"
	"slipstick/vlex"
)

// What the document asks, worked out by patterns: a token, with what must stand behind it, and what may stand between two.
var (
	between = regexp.MustCompile(`\A(?:[ \t\n]|//[^\n]*)*`)
	tokens  = map[int]*regexp.Regexp{
		1: regexp.MustCompile(`\A(1'b[01])(?:[^a-zA-Z0-9_'].*)?\z`),
		2: regexp.MustCompile(`\A(0|[1-9][0-9]{0,6})(?:[^a-zA-Z0-9_'].*)?\z`),
		3: regexp.MustCompile(`\A([a-zA-Z_][a-zA-Z0-9_]*)`),
		4: regexp.MustCompile(`\A([()\[\]:;,?=])`),
	}
)

// wanted is what Lex must tell.
func wanted(s string) ([]vlex.Token, int, api.Errno) {
	var all []vlex.Token
	rest := s
	for {
		rest = rest[len(between.FindString(rest)):]
		line := 1 + strings.Count(s[:len(s)-len(rest)], "\n")
		if rest == "" {
			return all, 0, api.OK
		}
		// A pattern's dot stands for no line feed, nor for bytes that are no text: a sign that begins no token stands for these.
		head := []byte(rest[:min(len(rest), 30)])
		for i, c := range head {
			if c == '\n' || c >= 0x80 {
				head[i] = '$'
			}
		}
		found := vlex.Token{}
		for kind, pattern := range tokens {
			if m := pattern.FindSubmatch(head); m != nil {
				found = vlex.Token{Kind: kind, Text: string(m[1]), Line: line}
			}
		}
		switch found.Kind {
		case 0:
			return nil, line, api.ErrForm
		case 1:
			found.Value = int(found.Text[3] - '0')
		case 2:
			found.Value, _ = strconv.Atoi(found.Text)
		case 3:
			found.Text = tokens[3].FindString(rest)
		}
		all = append(all, found)
		rest = rest[len(found.Text):]
	}
}

// check holds what Lex tells of a text against the patterns.
func check(t *testing.T, s string) {
	t.Helper()
	want, line, e := wanted(s)
	got, at, f := vlex.Lex(s)
	if !slices.Equal(got, want) || at != line || f != e {
		t.Fatalf("Lex of %q: %v, %d, %d; want %v, %d, %d", s, got, at, f, want, line, e)
	}
}

// lexes is the tokens of a text that has but tokens.
func lexes(t *testing.T, s string) []vlex.Token {
	t.Helper()
	all, line, e := vlex.Lex(s)
	if e != api.OK || line != 0 {
		t.Fatalf("Lex of %q: %d, %d", s, line, e)
	}
	return all
}

// mixed is a text of pieces of no rule.
func mixed(r *probe.Rule, pieces []string, many int) string {
	s := ""
	for range many {
		s += pieces[r.Below(len(pieces))]
	}
	return s
}
