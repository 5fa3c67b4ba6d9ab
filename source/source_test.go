package source

import (
	"slices"
	"strings"
	"testing"
)

func TestWord(t *testing.T) {
	for _, c := range []struct{ s, word, rest string }{
		{"", "", ""}, {"   ", "", ""}, {"\n\n", "", ""}, {"a", "a", ""}, {"a b", "a", "b"}, {"a  b", "a", " b"}, {"  a b", "a", "b"},
		{"a\tb", "a", "b"}, {"a\x00b", "a", "b"}, {"\x01\x1fab\x1f\x1fc", "ab", "\x1fc"}, {"a\r\nb", "a", "\nb"},
		{"a\nb", "a", "\nb"}, {"a \nb", "a", "\nb"}, {"\n\n a\n", "a", "\n"}, {"!\x7f\x80\xff x", "!\x7f\x80\xff", "x"}, {"\xa0", "\xa0", ""},
	} {
		x := New(c.s)
		if w := x.Word(); w != c.word || x.Rest() != c.rest {
			t.Errorf("Word of %q: %q, and %q is left", c.s, w, x.Rest())
		}
	}
}

func TestWords(t *testing.T) {
	x := New("a b")
	if x.Rest() != "a b" {
		t.Error(x.Rest())
	}
	var l []string
	for range 4 {
		l = append(l, x.Word())
	}
	if !slices.Equal(l, []string{"a", "b", "", ""}) || x.Rest() != "" {
		t.Error(l)
	}
}

func TestParse(t *testing.T) {
	for _, c := range []struct {
		s    string
		c    byte
		part string
		ok   bool
		rest string
	}{
		{"a) b", ')', "a", true, " b"}, {")", ')', "", true, ""}, {"))", ')', "", true, ")"}, {"ab", ')', "ab", false, ""},
		{"", ')', "", false, ""}, {"a\nb)", ')', "a", false, "\nb)"}, {"\n)", ')', "", false, "\n)"}, {"a)\nb", ')', "a", true, "\nb"},
		{"ab\ncd", '\n', "ab", false, "\ncd"}, {"ab", '\n', "ab", false, ""}, {"a b c", ' ', "a", true, "b c"},
		{"a\x00b", 0, "a", true, "b"}, {"a\xffb", 0xff, "a", true, "b"},
	} {
		x := New(c.s)
		if s, ok := x.Parse(c.c); s != c.part || ok != c.ok || x.Rest() != c.rest {
			t.Errorf("Parse of %q: %q, %v, and %q is left", c.s, s, ok, x.Rest())
		}
	}
}

func TestSkip(t *testing.T) {
	for s, want := range map[string]string{"": "", "a b": "", "a\nb\nc": "b\nc", "\nb": "b", "a\n": "", "\n": "", "\n\n": "\n"} {
		x := New(s)
		x.Skip()
		if x.Rest() != want {
			t.Errorf("Skip of %q leaves %q", s, x.Rest())
		}
	}
}

func TestTogether(t *testing.T) {
	x := New("one ( two ) three \\ four\nfive s\" six  \" seven\neight")
	var l []string
	for w := x.Word(); w != ""; w = x.Word() {
		switch w {
		case "(":
			w, _ = x.Parse(')')
		case "s\"":
			w, _ = x.Parse('"')
		case "\\":
			x.Skip()
		}
		l = append(l, w)
	}
	if s := strings.Join(l, ","); s != "one,two ,three,\\,five,six  ,seven,eight" {
		t.Errorf("%q", s)
	}
	x = New("\\\nb")
	x.Word()
	x.Skip()
	if x.Rest() != "b" {
		t.Error(x.Rest())
	}
}

func TestNil(t *testing.T) {
	var x *Source
	if x.Rest() != "" || x.Word() != "" {
		t.Error("Rest, Word")
	}
	if s, ok := x.Parse('a'); s != "" || ok {
		t.Error(s, ok)
	}
	x.Skip()
}
