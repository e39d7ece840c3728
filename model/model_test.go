package model

import (
	"fmt"
	"reflect"
	"strings"
	"testing"

	"scrutiny/api"
)

// P14.1: items in order, each with what it says.
func TestParse(t *testing.T) {
	m, e, at := Parse("var x 0 3 0; proc P { x < 3 : x = x + 1; }")
	want := api.Model{
		Names: []string{"x"}, Schema: []api.Field{{Lo: 0, Hi: 3}}, Init: []int{0}, Procs: []string{"P"},
		Cmd: []api.Cmd{{
			Guard: api.Expr{Op: api.ELt, At: 24, L: []api.Expr{{Op: api.EVar, At: 22}, {Op: api.ENum, N: 3, At: 26}}},
			Set:   []api.Set{{E: api.Expr{Op: api.EAdd, At: 36, L: []api.Expr{{Op: api.EVar, At: 34}, {Op: api.ENum, N: 1, At: 38}}}}},
		}},
	}
	if !reflect.DeepEqual(m, want) || e != api.OK || at != 0 {
		t.Errorf("%+v %d %d", m, e, at)
	}
	m, e, at = Parse(`proc none { } # no commands
		var a -5 -1 - 3; var b 0 65535 65535;
		proc one { a == b : b = 1, a = -b; true : b = b * a; }
		var c 7 7 7;
		proc two { c == 7 : c = 7, b = 0, a = 0; }`)
	if e != api.OK || at != 0 || !reflect.DeepEqual(m.Names, []string{"a", "b", "c"}) || !reflect.DeepEqual(m.Procs, []string{"none", "one", "two"}) ||
		!reflect.DeepEqual(m.Schema, []api.Field{{Lo: -5, Hi: -1}, {Lo: 0, Hi: 65535}, {Lo: 7, Hi: 7}}) || !reflect.DeepEqual(m.Init, []int{-3, 65535, 7}) {
		t.Errorf("%+v %d %d", m, e, at)
	}
	rows := ""
	for _, c := range m.Cmd {
		rows += fmt.Sprint(c.Proc)
		for _, s := range c.Set {
			rows += fmt.Sprint(" ", s.Var, " ", s.E.Op)
		}
		rows += ";"
	}
	if rows != fmt.Sprintf("1 1 %d 0 %d;1 1 %d;2 2 %d 1 %d 0 %d;", api.ENum, api.ENeg, api.EMul, api.ENum, api.ENum, api.ENum) {
		t.Error(rows)
	}
}

// vars is a text of n variables.
func vars(n int) string {
	out := ""
	for i := range n {
		out += fmt.Sprintf("var v%d 0 1 0;\n", i)
	}
	return out
}

// P14.1: the first fault from the left, and its place. The place is that of `@`, which is left out.
func TestFaults(t *testing.T) {
	cmds := func(n int) string { return strings.Repeat("x==0:x=0;", n) }
	for _, x := range []struct {
		e    api.Errno
		text string
	}{
		// of tokens
		{api.ErrForm, "var x 0 1 0; @?"}, {api.ErrBig, "var x 0 1 0; var y 0 @1073741825 0;"}, {api.ErrForm, "var true 0 1 0; proc @."},
		// where an item begins
		{api.ErrForm, "@"}, {api.ErrForm, "  # nothing\n@"}, {api.ErrForm, "proc P { }@"}, {api.ErrForm, "@x"}, {api.ErrForm, "var x 0 1 0; @; var y"}, {api.ErrForm, "proc P { } @}"}, {api.ErrForm, "@1"}, {api.ErrForm, "@true"},
		// a variable
		{api.ErrForm, "var@"}, {api.ErrForm, "var @1 0 1 0;"}, {api.ErrForm, "var @; 0"}, {api.ErrName, "var @true 0 1 0;"}, {api.ErrName, "var @X"}, {api.ErrName, "var @var x"}, {api.ErrName, "var x 0 1 0; var @x"}, {api.ErrName, "proc P { } var @P"},
		{api.ErrForm, "var x @;"}, {api.ErrForm, "var x 0 @;"}, {api.ErrForm, "var x 0 1 @;"}, {api.ErrForm, "var x 0 1 0@"}, {api.ErrForm, "var x 0 1 0 @0;"}, {api.ErrForm, "var x - @- 1 1 0;"}, {api.ErrForm, "var x 0 -@x 0;"}, {api.ErrForm, "var x 0 1 0 @var"}, {api.ErrForm, "var x 0 @+1 0;"},
		{api.ErrRange, "var x @1 0 0;"}, {api.ErrRange, "var x @0 65536 0;"}, {api.ErrRange, "var x @-1 1 2;"}, {api.ErrRange, "var x @- 1 1 -2;"}, {api.ErrRange, "var x @-1073741824 1073741824 0;"}, {api.ErrForm, "var x 1 0 0 @x"}, {api.ErrRange, "var x @5 4 4; var x"},
		{api.ErrBig, vars(16) + "var @x 0 1 0;"}, {api.ErrBig, vars(16) + "var @x ;"}, {api.ErrName, vars(16) + "var @v3"}, {api.ErrName, vars(16) + "var @G"}, {api.ErrForm, vars(16) + "var @3"},
		// a process
		{api.ErrForm, "proc@"}, {api.ErrForm, "proc @{"}, {api.ErrName, "proc @proc {"}, {api.ErrName, "var x 0 1 0; proc @x"}, {api.ErrName, "proc P { } proc @P"}, {api.ErrForm, "proc P @x"}, {api.ErrForm, "proc P {@"}, {api.ErrForm, "var x 0 1 0; proc P { x == 0 : x = 1;@"},
		// a command
		{api.ErrForm, "var x 0 1 0; proc P { @: x = 1; }"}, {api.ErrForm, "var x 0 1 0; proc P { true @x = 1; }"}, {api.ErrForm, "var x 0 1 0; proc P { true : @; }"}, {api.ErrForm, "var x 0 1 0; proc P { true : x @== 1; }"}, {api.ErrForm, "var x 0 1 0; proc P { true : x = 1 @}"},
		{api.ErrForm, "var x 0 1 0; proc P { true : x = 1, @; }"}, {api.ErrForm, "var x 0 1 0; proc P { true : @1 = 1; }"}, {api.ErrForm, "var x 0 1 0; proc P { true : x = @; }"}, {api.ErrForm, "var x 0 1 0; proc P { @; }"}, {api.ErrForm, "var x 0 1 0; proc P { true : x = 1; @var"},
		{api.ErrType, "var x 0 1 0; proc P { @x : x = 1; }"}, {api.ErrType, "var x 0 1 0; proc P { (x @+ true) == 1 : x = 1; }"}, {api.ErrType, "var x 0 1 0; proc P { true : x = 1 + (x @- true); }"}, {api.ErrType, "var x 0 1 0; proc P { x @+ 1 x"}, {api.ErrType, "var x 0 1 0; proc P { @G true : x = 1; }"}, {api.ErrType, "var x 0 1 0; proc P { true @+ 1 : x = 1; }"}, {api.ErrType, "var x 0 1 0; proc P { true : x = @true; }"},
		{api.ErrType, "var x 0 1 0; proc P { true : x = x @< 1; }"}, {api.ErrType, "var x 0 1 0; proc P { true : x = 1 @- true; }"}, {api.ErrType, "var x 0 1 0; proc P { true : x = @X true; }"}, {api.ErrForm, "var x 0 1 0; proc P { true : x = 1 + @X true; }"}, {api.ErrName, "var x 0 1 0; proc P { x == @y : x = 1; } var y 0 1 0;"}, {api.ErrName, "var x 0 1 0; proc P { x == @P : x = 1; }"},
		{api.ErrName, "var x 0 1 0; proc P { true : @y = 1; }"}, {api.ErrName, "var x 0 1 0; proc P { true : @P = 1; }"}, {api.ErrName, "var x 0 1 0; proc P { true : x = 1, @x = 1; }"}, {api.ErrName, "var x 0 1 0; proc P { true : @y ; }"}, {api.ErrType, "var x 0 1 0; proc P { true : x = (@X true); }"},
		{api.ErrBig, "var x 0 1 0; proc P { " + strings.Repeat("(", 64) + "@x"}, {api.ErrBig, "var x 0 1 0; proc P { true : x = " + strings.Repeat("-", 316) + "@x"},
		// too many commands
		{api.ErrBig, "var x 0 1 0; proc P {" + cmds(256) + "@x"}, {api.ErrBig, "var x 0 1 0; proc P {" + cmds(256) + "@;"}, {api.ErrBig, "var x 0 1 0; proc P {" + cmds(256) + "@"}, {api.ErrBig, "var x 0 1 0; proc P {" + cmds(200) + "} proc Q {" + cmds(56) + "@y"},
	} {
		at := strings.Index(x.text, "@")
		text := strings.Replace(x.text, "@", "", 1)
		if m, e, place := Parse(text); e != x.e || place != at || !reflect.DeepEqual(m, api.Model{}) {
			t.Errorf("%q: %d %d, not %d %d", x.text, e, place, x.e, at)
		}
	}
	if _, e, at := Parse("var x 0 1 0;" + strings.Repeat(" ", 65536)); e != api.ErrBig || at != 0 {
		t.Error(e, at)
	}
	for i, text := range []string{vars(16), "var x 0 1 0; proc P {" + cmds(256) + "} proc Q { }", "var x -1073741824 -1073741824 -1073741824;", "var x 0 65535 9;proc P{}", vars(16) + "proc P { v0 == 0 : v15 = 1; }"} {
		if _, e, at := Parse(text); e != api.OK || at != 0 {
			t.Error(i, e, at)
		}
	}
}

// P14.2, P14.3: blanks and comments change nothing but places.
func TestSame(t *testing.T) {
	text := "var x 0 3 0; var y -1 1 0; proc P { x < 3 : x = x + 1, y = 0; y == 0 : y = 1; } proc Q { }"
	a, e, _ := Parse(text)
	if e != api.OK {
		t.Fatal(e)
	}
	for _, between := range []string{"\n", "\t ", " # x ; }\n", "  "} {
		b, e, _ := Parse(strings.ReplaceAll(text, " ", between) + between)
		if e != api.OK || !Same(a, b) || !Same(b, a) || reflect.DeepEqual(a, b) && len(between) > 1 {
			t.Error(between, e)
		}
	}
	for old, other := range map[string]string{"x 0 3 0": "x 0 4 0", "y -1 1 0": "y -1 1 1", "x < 3": "x < 2", "x + 1": "x - 1", ", y = 0": "", "y = 1": "x = 1", "proc Q { }": "", "Q": "R2", "} proc Q {": "} proc Q { x == 0 : x = 0;", "y == 0 : y = 1; } proc Q {": "} proc Q { y == 0 : y = 1;", "var y -1 1 0;": "var y -1 1 0; var z 0 0 0;", "x = x + 1, y = 0": "y = 0, x = x + 1"} {
		b, e, at := Parse(strings.Replace(text, old, other, 1))
		if e != api.OK || Same(a, b) || Same(b, a) {
			t.Error(old, e, at)
		}
	}
	if !Same(api.Model{}, api.Model{Names: []string{}, Cmd: []api.Cmd{}}) {
		t.Error("nothing")
	}
}

// P14.3: what stands behind a system is read as by itself.
func TestBehind(t *testing.T) {
	one := "var x 0 3 0; proc P { x < 3 : x = x + 1; } # end"
	two := "var y 0 1 1; proc Q { y == 1 : y = 0; y == 0 : y = 1; }"
	both, e, _ := Parse(one + "\n" + two)
	b, _, _ := Parse(two)
	if e != api.OK || len(both.Cmd) != 3 || both.Cmd[1].Proc != 1 || both.Cmd[1].Set[0].Var != 1 || both.Schema[1] != b.Schema[0] || both.Init[1] != b.Init[0] {
		t.Error(e, both)
	}
	if _, e, at := Parse(one + "\nvar x 0 1 0;"); e != api.ErrName || at != len(one)+5 {
		t.Error(e, at)
	}
}
