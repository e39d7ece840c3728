package tool

import (
	"math"
	"strings"
	"testing"

	"scrutiny/api"
	"scrutiny/probe"
)

// P24.1: lines that are options, and lines that aren't.
func TestOptions(t *testing.T) {
	for line, want := range map[string]api.Opts{
		"plain 9 8":                 {Kind: api.KFlat, Cap: 9, Stack: 8},
		"parts 1 2":                 {Kind: api.KComp, Cap: 1, Stack: 2},
		"tree 0 0":                  {Kind: api.KTree},
		"words 999999999 000000001": {Kind: api.KDfa, Cap: 999999999, Stack: 1},
		"lossy 1 2 3 4 5":           {Kind: api.KBlur, Cap: 1, Stack: 2, M: 3, K: 4, Seed: 5},
		"  plain   3  4 ":           {Kind: api.KFlat, Cap: 3, Stack: 4},
	} {
		if got, ok := Options(line); got != want || !ok {
			t.Errorf("%q %v %v", line, got, ok)
		}
	}
	for _, line := range []string{
		"", " ", "plain", "plain 1", "plain 1 2 3", "lossy 1 2", "lossy 1 2 3 4", "lossy 1 2 3 4 5 6", "tree 1 2 3 4 5", "flat 1 2", "Plain 1 2", "plain 1 0000000002", "plain 1234567890 1", "plain -1 2", "plain +1 2", "plain 1 2\n", "plain\t1 2", "plain 1\t2",
		"plain 1 2\r", "plain 1 x", "plain 1.0 2", "1 2 plain", "1 2", "plain one two", "plain 1 \u0661", "plain 0x1 2", "pl ain 1 2", "plain 1 2 ;", "plain1 2", "lossy 1 2 3 4 -5", "plain\u00a01 2",
	} {
		if got, ok := Options(line); got != (api.Opts{}) || ok {
			t.Errorf("%q %v %v", line, got, ok)
		}
	}
}

// P24.2: verdicts as rows.
func TestShow(t *testing.T) {
	for i, x := range []struct {
		v    api.Verdict
		want string
	}{
		{api.Verdict{Kind: api.VHolds}, "holds\n"}, {api.Verdict{Kind: api.VNothing}, "nothing\n"}, {api.Verdict{Kind: api.VViolated}, "violated\n"},
		{api.Verdict{Kind: api.VViolated, Lasso: api.Lasso{Stem: [][]int{{0, -1}, {10, 2}}, Cycle: [][]int{{3}, {}}}}, "violated\n- 0 -1\n- 10 2\no 3\no\n"},
		{api.Verdict{Err: api.ErrForm, At: 12}, "error 2 12\n"}, {api.Verdict{Err: api.ErrBounds, State: []int{4, -5}}, "error 6 0\n! 4 -5\n"}, {api.Verdict{}, "error 0 0\n"}, {api.Verdict{State: []int{}}, "error 0 0\n"},
		{api.Verdict{Kind: 4, Err: 3, At: 1}, "error 3 1\n"}, {api.Verdict{Kind: -1, Err: 3}, "error 3 0\n"}, {api.Verdict{Kind: math.MaxInt, Err: -2, At: -3}, "error -2 -3\n"}, {api.Verdict{Kind: math.MinInt}, "error 0 0\n"},
		{api.Verdict{Kind: api.VHolds, Err: 5, At: 5, State: []int{math.MinInt}, Lasso: api.Lasso{Stem: [][]int{nil}, Cycle: [][]int{{1}}}}, "holds\n-\no 1\n! -9223372036854775808\n"},
	} {
		if got := Show(x.v); got != x.want {
			t.Errorf("%d %q", i, got)
		}
	}
}

// P24.3: texts, and what comes of them.
func TestRun(t *testing.T) {
	const system = "var x 0 1 0; proc P { true : x = 1; }"
	for _, x := range []struct{ text, want string }{
		{"plain 9 9\nG x < 1\n" + system, "violated\n- 0\n- 1\no 1\n"}, {"tree 9 9\nF x == 1\n" + system, "holds\n"}, {"lossy 0 9 999 2 1\nF x == 1\n" + system, "nothing\n"}, {" words  2 6 \nF x == 1\n\n# so\n" + strings.ReplaceAll(system, " ", "\n"), "holds\n"},
		{"parts 9 9\nG x < \n" + system, "error 2 6\n"}, {"parts 9 9\n\n" + system, "error 2 0\n"}, {"parts 9 9\nF x == 1\nvar x 0 1 2;", "error 5 6\n"}, {"parts 9 0\nF x == 1\n" + system, "error 1 0\n"}, {"plain 1 9\nF x == 1\n" + system, "error 7 0\n"}, {"plain 9 9\nF x == 1\nvar x 0 1 0; proc P { true : x = x + 1; }", "error 6 0\n! 1\n"},
		{"", "what\n"}, {"\n", "what\n"}, {"plain 9 9", "what\n"}, {"plain 9\nF x == 1\n" + system, "what\n"}, {"\nplain 9 9\nF x == 1\n" + system, "what\n"}, {"plain 9 9\r\nF x == 1\n" + system, "what\n"}, {"what\nwhat\nwhat", "what\n"},
		{"plain 9 9\n", "error 2 0\n"}, {"plain 9 9\nF x == 1", "error 2 0\n"}, {"plain 9 9\nF x == 1\n", "error 2 0\n"}, {"plain 9 9\n\n", "error 2 0\n"}, {"plain 0 1\ntrue\nvar x 0 0 0;", "error 7 0\n"}, {"plain 1 1\ntrue\nvar x 0 0 0;", "holds\n"},
	} {
		if got := Run(x.text); got != x.want {
			t.Errorf("%q %q", x.text, got)
		}
	}
}

// P24.4: any text is answered.
func TestAny(t *testing.T) {
	dice := probe.Dice(24)
	pieces := []string{"plain 9 9\n", "tree 99 99\n", "lossy 9 9 64 2 1\n", "words 9 9\n", "parts 9 9\n", "G x < 1", "F x == y", "\n", "var x 0 1 0; ", "var y -1 2 1; ", "proc P { ", "true : x = 1; ", "x == y : y = x, x = 0; ", "} ", "#", "\x00", "\xff", "((((", "- ", "X ", "<->", "1073741824", "1073741825", " ", ";", "x = x + 1", "proc", "U", "&"}
	for range 20000 {
		var s strings.Builder
		for range dice.Roll(14) {
			s.WriteString(pieces[dice.Roll(len(pieces))])
		}
		if got := Run(s.String()); !strings.HasSuffix(got, "\n") {
			t.Errorf("%q %q", s.String(), got)
		}
	}
	for _, s := range []string{strings.Repeat("plain 9 9\n", 20000), "plain 9 9\n" + strings.Repeat("(", 99999), "plain 9 9\ntrue\n" + strings.Repeat("var x 0 1 0;", 9999), strings.Repeat(" ", 99999), "plain 9 9\n" + strings.Repeat("!", 65536) + "\nvar x 0 1 0;"} {
		if got := Run(s); !strings.HasPrefix(got, "error ") && got != "what\n" {
			t.Error(got)
		}
	}
}
