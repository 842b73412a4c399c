package lex_test

import (
	"slices"
	"strings"
	"testing"

	"underwood/api"
	"underwood/lex"
)

func name(s string, at int) api.Token       { return api.Token{Kind: api.TName, Text: s, At: at} }
func num(s string, n int, at int) api.Token { return api.Token{Kind: api.TNum, Text: s, N: n, At: at} }
func sign(s string, at int) api.Token       { return api.Token{Kind: api.TSign, Text: s, At: at} }

// P4.1
func TestWords(t *testing.T) {
	for _, x := range []struct {
		text string
		want []api.Token
	}{
		{"", nil},
		{" \t\n ", nil},
		{"x1=x==7", []api.Token{name("x1", 0), sign("=", 2), name("x", 3), sign("==", 4), num("7", 7, 6)}},
		{"a\nb\tc d", []api.Token{name("a", 0), name("b", 2), name("c", 4), name("d", 6)}},
		{"===", []api.Token{sign("==", 0), sign("=", 2)}},
		{"(){},;.=+-*<", []api.Token{sign("(", 0), sign(")", 1), sign("{", 2), sign("}", 3), sign(",", 4), sign(";", 5), sign(".", 6), sign("=", 7), sign("+", 8), sign("-", 9), sign("*", 10), sign("<", 11)}},
		{"0 4294967295 10", []api.Token{num("0", 0, 0), num("4294967295", 1<<32-1, 2), num("10", 10, 13)}},
		{"A_1_zZ9 func", []api.Token{name("A_1_zZ9", 0), name("func", 8)}},
		{"abcdefghijkl", []api.Token{name("abcdefghijkl", 0)}},
		{"1+a", []api.Token{num("1", 1, 0), sign("+", 1), name("a", 2)}},
	} {
		got, err := lex.Words(x.text)
		if err != api.OK || !slices.Equal(got, x.want) {
			t.Errorf("Words(%q) = %v %v", x.text, got, err)
		}
	}
}

func TestWordsWrong(t *testing.T) {
	for text, want := range map[string]api.Errno{
		"x1=x==07":                        api.ErrForm,
		"00":                              api.ErrForm,
		"abcdefghijklm":                   api.ErrForm,
		"4294967296":                      api.ErrForm,
		"12345678901":                     api.ErrForm,
		"99999999999999999999999":         api.ErrForm,
		"1a":                              api.ErrForm,
		"1_":                              api.ErrForm,
		"_a":                              api.ErrForm,
		"a ?":                             api.ErrForm,
		"a\r":                             api.ErrForm,
		"a\x00":                           api.ErrForm,
		"é":                               api.ErrForm,
		"aé":                              api.ErrForm,
		"\xff":                            api.ErrForm,
		"!":                               api.ErrForm,
		"/":                               api.ErrForm,
		">":                               api.ErrForm,
		strings.Repeat(" ", 4001):         api.ErrBound,
		"?" + strings.Repeat(" ", 4000):   api.ErrBound,
		"_" + strings.Repeat("a ", 1999):  api.ErrForm,
		strings.Repeat("a ", 1999) + "1a": api.ErrForm,
	} {
		if got, err := lex.Words(text); err != want || len(got) != 0 {
			t.Errorf("Words(%.20q) = %v %v", text, got, err)
		}
	}
	if got, err := lex.Words(strings.Repeat("a ", 2000)); err != api.OK || len(got) != 2000 {
		t.Error("a text of MaxText bytes", len(got), err)
	}
}

// P4.2, P4.3
func TestShow(t *testing.T) {
	if lex.Show(nil) != "" || lex.Show([]api.Token{{Text: "a"}}) != "a" || lex.Show([]api.Token{{Text: "a"}, {Text: ""}, {Text: "=="}}) != "a  ==" {
		t.Error("Show")
	}
	text := "func f(a,b){x=a<b*12;}\n==\t=="
	l, _ := lex.Words(text)
	again, err := lex.Words(lex.Show(l))
	if err != api.OK || len(again) != len(l) {
		t.Fatal(again, err)
	}
	end := 0
	for i, w := range l {
		if again[i].Text != w.Text || again[i].Kind != w.Kind || again[i].N != w.N {
			t.Error("shown", w, "read", again[i])
		}
		if text[w.At:w.At+len(w.Text)] != w.Text || strings.Trim(text[end:w.At], " \n\t") != "" {
			t.Error("not there", w)
		}
		end = w.At + len(w.Text)
	}
}
