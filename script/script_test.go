package script

import (
	"math"
	"reflect"
	"slices"
	"strings"
	"testing"

	"shed/api"
	"shed/run"
	"shed/vm"
)

func defaults() run.Script {
	return run.Script{Config: vm.Config{Dict: 16384, Data: 64, Return: 64, Heap: 4096, Slots: 16}, Fuel: 10000}
}

func TestParse(t *testing.T) {
	for _, c := range []struct {
		text   string
		change func(s *run.Script)
	}{
		{"text", func(s *run.Script) {}},
		{"text ", func(s *run.Script) {}},
		{"text\n", func(s *run.Script) {}},
		{"text\n\n", func(s *run.Script) { s.Text = "\n" }},
		{"text\n1 .\n2 .\ntext\ndict 5\n", func(s *run.Script) { s.Text = "1 .\n2 .\ntext\ndict 5\n" }},
		{"text \n 1 .", func(s *run.Script) { s.Text = " 1 ." }},
		{"dict 0\ntext", func(s *run.Script) { s.Config.Dict = 0 }},
		{"dict 1048576\ntext", func(s *run.Script) { s.Config.Dict = 1 << 20 }},
		{"dict 10\ndata 20\nreturn 30\nheap 40\nslots 50\nfuel 60\nin a b \ntext\nx", func(s *run.Script) {
			*s = run.Script{Config: vm.Config{Dict: 10, Data: 20, Return: 30, Heap: 40, Slots: 50}, Fuel: 60, In: "a b ", Text: "x"}
		}},
		{"in\ntext", func(s *run.Script) {}},
		{"in \ntext", func(s *run.Script) {}},
		{"in  \ntext", func(s *run.Script) { s.In = " " }},
		{"in abc\nin\ntext", func(s *run.Script) {}},
		{"in abc\r\ntext", func(s *run.Script) { s.In = "abc\r" }},
		{"fuel 1\nfuel 2\ndict 8\nfuel 3\ntext", func(s *run.Script) { s.Fuel = 3; s.Config.Dict = 8 }},
	} {
		want := defaults()
		c.change(&want)
		if s, n := Parse(c.text); n != 0 || s != want {
			t.Errorf("%q: %+v, %d", c.text, s, n)
		}
	}
}

func TestWrongLines(t *testing.T) {
	for text, want := range map[string]int{
		"": 1, "\n": 1, "\ntext": 1, "dict 5": 2, "dict 5\n": 2, "dict 5\n\ntext": 2, "in abc": 2, "in abc\nfuel 3": 3, "fuel 1\nfuel x\nnothing": 2,
		"texts": 1, "text  ": 1, "text x": 1, "text\tx": 1, " text": 1, "Text": 1, "TEXT": 1, "text\r": 1,
		"dict": 1, "dict ": 1, "dict  5": 1, "dict 5 ": 1, "dict x": 1, "dict -1": 1, "dict -0": 1, "dict +5": 1, "dict 05": 1, "dict 00": 1, "dict 5.0": 1, "dict 0x5": 1, "dict 1_0": 1,
		"dict 1048577": 1, "dict 18446744073709551616": 1, "dict 99999999999999999999999999": 1, "dict\t5": 1, "dict5": 1, "Dict 5": 1, " dict 5": 1, "dict 5\r": 1,
		"data 1048577": 1, "return x": 1, "heap": 1, "slots -1": 1, "fuel 1048577": 1, "fuel": 1, "int 5": 1, "input": 1, "left 5": 1,
		"fuel 5\nfuel 5\nheap 8\nstack\ntext": 4,
	} {
		if s, n := Parse(text); n != want || s != (run.Script{}) {
			t.Errorf("%q: %+v, %d; want %d", text, s, n, want)
		}
	}
}

func TestShow(t *testing.T) {
	for _, c := range []struct {
		r    run.Result
		want string
	}{
		{run.Result{}, "code 0\nstack\nleft 0\nout\n"},
		{run.Result{Code: api.Undefined, Stack: []int64{1, -2, math.MinInt64}, Left: 97, Out: "a\nb", In: "x", Here: 5, Over: true}, "code -13\nstack 1 -2 -9223372036854775808\nleft 97\nout\na\nb"},
		{run.Result{Code: math.MaxInt64, Stack: []int64{0}, Left: -5, Out: "\n"}, "code 9223372036854775807\nstack 0\nleft -5\nout\n\n"},
	} {
		if s := Show(c.r); s != c.want {
			t.Errorf("%q; want %q", s, c.want)
		}
	}
}

func TestPlay(t *testing.T) {
	for text, want := range map[string]string{
		"text\n1 .":                        "code 0\nstack\nleft 9997\nout\n1 ",
		"fuel 10\nin ab\ntext\nkey 2 none": "code -13\nstack\nleft 6\nout\n?-13\n",
		"fuel 10\nin ab\ntext\nkey 2":      "code 0\nstack 97 2\nleft 7\nout\n",
		"fuel 2\ntext\n1 2 3":              "code -2053\nstack\nleft 0\nout\n?-2053\n",
		"":                                 "line 1\n",
		"dict 8":                           "line 2\n",
		"heap 8\ntext\n1":                  "code -256\nstack\nleft 0\nout\n",
		"dict 8\ntext\n1":                  "code -8\nstack\nleft 0\nout\n",
		"slots 0\ntext\nclass a -":         "code -256\nstack\nleft 9999\nout\n?-256\n",
		"data 1\ntext\n1 2":                "code -3\nstack\nleft 9998\nout\n?-3\n",
	} {
		if s := Play(text); s != want {
			t.Errorf("%q: %q; want %q", text, s, want)
		}
	}
}

const classes = `class a - method one 1 endm method two 2 endm endclass
class b a method TWO 22 endm method three 3 endm endclass
class c b endclass
interface i four endinterface
class d - method three 33 endm endclass
redefine a one 11 endm
`

func TestMethods(t *testing.T) {
	s := defaults()
	s.Text = classes
	for which, want := range map[int][]string{
		0: {"one 0", "two 0"}, 1: {"one 0", "two 1", "three 1"}, 2: {"one 0", "two 1", "three 1"}, 3: {"three 3"},
		4: nil, -1: nil, math.MaxInt: nil, math.MinInt: nil,
	} {
		if l := Methods(s, which); !slices.Equal(l, want) {
			t.Errorf("Methods of %d: %v; want %v", which, l, want)
		}
	}
	s.Text = classes + "class e d nothing\n"
	if l := Methods(s, 4); len(l) != 0 {
		t.Error("a class that was removed", l)
	}
	s.Text = strings.Replace(classes, "redefine", "bye redefine", 1)
	if l := Methods(s, 0); !slices.Equal(l, []string{"one 0", "two 0"}) {
		t.Error(l)
	}
	s.Fuel = 3
	if l := Methods(s, 0); len(l) != 0 {
		t.Error("without fuel", l)
	}
	s = defaults()
	s.Config.Heap = 8
	s.Text = classes
	if l := Methods(s, 0); len(l) != 0 {
		t.Error("without a machine", l)
	}
}

func TestOneMethod(t *testing.T) {
	s := defaults()
	s.Text = "class a - method x 1 endm"
	if l := Methods(s, 0); !slices.Equal(l, []string{"x 0"}) {
		t.Error(l)
	}
}

// An entry whose class is none of theirs has no line.
func TestMethodsOfNobody(t *testing.T) {
	s := defaults()
	// The class's table has its slots from its second cell on; every class in it becomes 5.
	s.Config.Slots = 2
	s.Text = "class a - method x 1 endm method y 2 endm endclass 5 a 24 + @ 16 + 16 + !"
	if l := Methods(s, 0); len(l) != 1 {
		t.Error(l)
	}
	s.Text += " 5 a 24 + @ 16 + 24 + 16 + !"
	if l := Methods(s, 0); len(l) != 0 {
		t.Error(l)
	}
}

func TestMethodsAreThoseOfTheRun(t *testing.T) {
	s := defaults()
	s.Text = classes
	a, b := Methods(s, 1), Methods(s, 1)
	if !reflect.DeepEqual(a, b) {
		t.Error(a, b)
	}
	a[0] = "changed"
	if Methods(s, 1)[0] != "one 0" {
		t.Error("shared")
	}
}
