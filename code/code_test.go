package code

import (
	"math"
	"slices"
	"testing"
)

func all() []string {
	return []string{
		"exit", "lit", "branch", "0branch", "(do)", "(loop)", "(+loop)", "i", "j", "unloop",
		"dup", "drop", "swap", "over", "rot", "nip", "tuck", "?dup", "pick", "depth",
		">r", "r>", "r@", "+", "-", "*", "/", "mod", "and", "or",
		"xor", "lshift", "rshift", "=", "<>", "<", ">", "u<", "min", "max",
		"negate", "invert", "abs", "0=", "0<", "1+", "char+", "1-", "2*", "2/",
		"cells", "cell+", "aligned", "@", "!", "c@", "c!", "+!", "here", "allot",
		",", "c,", "align", "emit", "cr", "space", "type", ".", "u.", "key",
		"execute", "catch", "throw", "(caught)", "abort", "allocate", "free", "resize", "self", "new",
		"classof", "(send)", "(call)", "(super)", "(exitm)", "bye",
	}
}

func TestCodes(t *testing.T) {
	if Colon != 1001 || Variable != 1002 || Constant != 1003 || Method != 1004 || Field != 1005 {
		t.Error("the codes of words that aren't primitives")
	}
}

func TestNames(t *testing.T) {
	if l := Names(); len(l) != 86 || !slices.Equal(l, all()) {
		t.Error(l)
	}
	Names()[0] = "changed"
	if Names()[0] != "exit" {
		t.Error("the names are shared")
	}
}

func TestNumbers(t *testing.T) {
	for i, name := range all() {
		if n := Number(name); n != int64(i)+1 {
			t.Errorf("Number(%q): %d", name, n)
		}
		if s := Name(int64(i) + 1); s != name {
			t.Errorf("Name(%d): %q", i+1, s)
		}
	}
	if Number("dup") != 11 || Number("bye") != 86 {
		t.Error("dup, bye")
	}
	for _, name := range []string{"", "DUP", " dup", "exit lit", "base", "if", ":"} {
		if n := Number(name); n != 0 {
			t.Errorf("Number(%q): %d", name, n)
		}
	}
	for _, n := range []int64{0, -1, 87, 1001, math.MaxInt64, math.MinInt64} {
		if s := Name(n); s != "" {
			t.Errorf("Name(%d): %q", n, s)
		}
	}
}

func TestInlineAndInner(t *testing.T) {
	inline := map[string]int{"lit": 1, "branch": 1, "0branch": 1, "(loop)": 1, "(+loop)": 1, "(send)": 1, "(call)": 1, "(super)": 2}
	inner := []string{"exit", "(do)", "(caught)", "(exitm)", "i", "j", "unloop", ">r", "r>", "r@"}
	for _, name := range append(all(), "", "base", "LIT", "EXIT", "if", "nothing") {
		if n := Inline(name); n != inline[name] {
			t.Errorf("Inline(%q): %d", name, n)
		}
		if is, want := Inner(name), inline[name] > 0 || slices.Contains(inner, name); is != want {
			t.Errorf("Inner(%q): %v", name, is)
		}
	}
}
