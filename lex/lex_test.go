package lex

import (
	"slices"
	"strings"
	"testing"

	"scrutiny/api"
)

// P12.1: all signs, longer ones first, in memory of their own.
func TestSigns(t *testing.T) {
	want := strings.Fields("<-> -> == != <= >= < > = + - * ( ) { } ; , : & | !")
	if got := Signs(); !slices.Equal(got, want) {
		t.Error(got)
	}
	Signs()[0] = "?"
	if got := Signs(); got[0] != "<->" {
		t.Error(got)
	}
}

// P12.2: tokens and their places; blanks and comments are left out.
func TestTokens(t *testing.T) {
	name, num, sign := api.TName, api.TNum, api.TSign
	for i, x := range []struct {
		text string
		want []api.Token
	}{
		{"", nil},
		{" \t\r\n", nil},
		{"# all of it", nil},
		{"x1 <= 10 # end", []api.Token{{Kind: name, Text: "x1"}, {Kind: sign, Text: "<=", At: 3}, {Kind: num, Text: "10", N: 10, At: 6}}},
		{"a#b\nc", []api.Token{{Kind: name, Text: "a"}, {Kind: name, Text: "c", At: 4}}},
		{"a#b\r#c\n\n#\n_", []api.Token{{Kind: name, Text: "a"}, {Kind: name, Text: "_", At: 10}}},
		{"1a_B2 0007", []api.Token{{Kind: num, Text: "1", N: 1}, {Kind: name, Text: "a_B2", At: 1}, {Kind: num, Text: "0007", N: 7, At: 6}}},
		{"<->-><-<==->", []api.Token{{Kind: sign, Text: "<->"}, {Kind: sign, Text: "->", At: 3}, {Kind: sign, Text: "<", At: 5}, {Kind: sign, Text: "-", At: 6}, {Kind: sign, Text: "<=", At: 7}, {Kind: sign, Text: "=", At: 9}, {Kind: sign, Text: "->", At: 10}}},
		{"===!==!", []api.Token{{Kind: sign, Text: "=="}, {Kind: sign, Text: "=", At: 2}, {Kind: sign, Text: "!=", At: 3}, {Kind: sign, Text: "=", At: 5}, {Kind: sign, Text: "!", At: 6}}},
		{"1073741824", []api.Token{{Kind: num, Text: "1073741824", N: 1 << 30}}},
		{"true var", []api.Token{{Kind: name, Text: "true"}, {Kind: name, Text: "var", At: 5}}},
	} {
		want := append(x.want, api.Token{Kind: api.TEnd, At: len(x.text)})
		if got, e, at := Tokens(x.text); !slices.Equal(got, want) || e != api.OK || at != 0 {
			t.Error(i, got, e, at)
		}
	}
	for _, s := range Signs() {
		if got, e, _ := Tokens(s); e != api.OK || len(got) != 2 || got[0] != (api.Token{Kind: sign, Text: s}) {
			t.Error(s, got, e)
		}
	}
}

// P12.2: what each byte begins, and which go on with a name or a number.
func TestBytes(t *testing.T) {
	const letters, digits = "abcdefghijklmnopqrstuvwxyzABCDEFGHIJKLMNOPQRSTUVWXYZ_", "0123456789"
	for c := range 256 {
		s := string([]byte{byte(c)})
		l, e, at := Tokens(s)
		want := 0
		switch {
		case strings.Contains(letters, s):
			want = api.TName
		case strings.Contains(digits, s):
			want = api.TNum
		case slices.Contains(Signs(), s):
			want = api.TSign
		case strings.Contains("\t\n\r #", s):
			want = api.TEnd
		}
		if want == 0 && (e != api.ErrForm || at != 0) || want != 0 && (e != api.OK || l[0].Kind != want) {
			t.Errorf("%q %v %d %d", s, l, e, at)
		}
		for _, first := range []string{"a", "7"} {
			l, _, _ := Tokens(first + s)
			goes := strings.Contains(digits, s) || first == "a" && strings.Contains(letters, s)
			if goes != (len(l) == 2 && l[0].Text == first+s) {
				t.Errorf("%q %q %v", first, s, l)
			}
		}
	}
}

// P12.2: the first fault from the left, and its place; no tokens then.
func TestFaults(t *testing.T) {
	for i, x := range []struct {
		text string
		e    api.Errno
		at   int
	}{
		{"a ? b", api.ErrForm, 2}, {"a\x00", api.ErrForm, 1}, {"\u00e9", api.ErrForm, 0}, {"a \x0b", api.ErrForm, 2}, {"x . y ?", api.ErrForm, 2},
		{" " + strings.Repeat("a", 33), api.ErrBig, 1}, {strings.Repeat("a", 33) + "?", api.ErrBig, 0}, {"?" + strings.Repeat("a", 33), api.ErrForm, 0},
		{"1 1073741825", api.ErrBig, 2}, {strings.Repeat("9", 60000), api.ErrBig, 0}, {"18446744073709551616", api.ErrBig, 0}, {"1\x80", api.ErrForm, 1},
		{strings.Repeat("a", 65537), api.ErrBig, 0}, {strings.Repeat(" ", 65537), api.ErrBig, 0}, {"a " + strings.Repeat("?", 65535), api.ErrBig, 0},
		{"a" + strings.Repeat(" ", 65534) + "?", api.ErrForm, 65535},
	} {
		if got, e, at := Tokens(x.text); got != nil || e != x.e || at != x.at {
			t.Error(i, len(got), e, at)
		}
	}
	for i, text := range []string{strings.Repeat("a", 32), strings.Repeat("0", 65000) + "1073741824", strings.Repeat(" ", 65536), "#" + strings.Repeat("?", 65535)} {
		if _, e, at := Tokens(text); e != api.OK || at != 0 {
			t.Error(i, e, at)
		}
	}
}

// texts are tokens' texts, with something between them.
func texts(l []api.Token, between string) string {
	out := []string{}
	for _, x := range l[:len(l)-1] {
		out = append(out, x.Text)
	}
	return strings.Join(out, between)
}

// P12.3: texts with blanks between them have the same tokens; each byte is in one, but for blanks and comments.
func TestAgain(t *testing.T) {
	for _, text := range []string{"a<->b->c", "x=-1;y={}#hm", "G(a==1->F!b>=2&c|d<3*4)", "# a\nb # c\nd", "007a_7 _", "a<-1,b:c!=d"} {
		l, e, _ := Tokens(text)
		if e != api.OK {
			t.Fatal(text, e)
		}
		for _, between := range []string{" ", "\n\t ", " # x\n"} {
			again, e, _ := Tokens(texts(l, between))
			same := e == api.OK && len(again) == len(l)
			for i := range l {
				same = same && l[i].Kind == again[i].Kind && l[i].Text == again[i].Text && l[i].N == again[i].N
			}
			if !same {
				t.Error(text, again, e)
			}
		}
		covered := []byte(text)
		for i := range covered {
			if covered[i] == '#' {
				for ; i < len(covered) && covered[i] != '\n'; i++ {
					covered[i] = ' '
				}
			}
		}
		for _, x := range l {
			if text[x.At:x.At+len(x.Text)] != x.Text || strings.Contains(string(covered[x.At:x.At+len(x.Text)]), " ") {
				t.Error(text, x)
			}
			for i := range x.Text {
				covered[x.At+i] = ' '
			}
		}
		if strings.TrimSpace(string(covered)) != "" {
			t.Errorf("%q %q", text, covered)
		}
	}
}
