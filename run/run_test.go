package run

import (
	"reflect"
	"strings"
	"testing"

	"shed/api"
	"shed/oop"
	"shed/vm"
)

var plain = vm.Config{Dict: 8192, Data: 16, Return: 16, Heap: 256, Slots: 4}

func here(t *testing.T) int64 {
	t.Helper()
	f, e := oop.New(plain, "")
	if e != api.OK {
		t.Fatal(e)
	}
	return f.Here()
}

func is(t *testing.T, what string, r, want Result) {
	t.Helper()
	if len(r.Stack) == 0 {
		r.Stack = nil
	}
	if !reflect.DeepEqual(r, want) {
		t.Errorf("%s: %+v; want %+v", what, r, want)
	}
}

func TestRun(t *testing.T) {
	from := here(t)
	is(t, "1 2 + .", Run(Script{Config: plain, Text: "1 2 + .", Fuel: 100}), Result{Out: "3 ", Left: 94, Here: from})
	is(t, "nothing", Run(Script{Config: plain}), Result{Here: from})
	is(t, "all", Run(Script{Config: plain, Text: "key 5 variable x nothing\nkey 7 8 , 9 bye 10", In: "abc", Fuel: 50}),
		Result{Code: api.Undefined, Out: "?-13\n", Stack: []int64{98, 7, 9}, Left: 50 - 2 - 1 - 1 - 1 - 2 - 1 - 1 - 2 - 1 - 2, In: "c", Here: from + 40 + 8, Over: true})
	is(t, "fuel", Run(Script{Config: plain, Text: "1 2\n3", Fuel: 2}), Result{Code: api.Fuel, Out: "?-2053\n", Here: from})
	is(t, "no fuel", Run(Script{Config: plain, Text: "1", Fuel: -5}), Result{Code: api.Fuel, Out: "?-2053\n", Left: -5, Here: from})
	is(t, "classes", Run(Script{Config: plain, Text: "class a - method f 7 endm endclass a new -> f", Fuel: 100}).stackOnly(), Result{Stack: []int64{7}})
}

// stackOnly leaves the code and the numbers.
func (r Result) stackOnly() Result {
	return Result{Code: r.Code, Stack: r.Stack}
}

func TestRunWithoutAMachine(t *testing.T) {
	for _, c := range []struct {
		c    vm.Config
		want api.Code
	}{{vm.Config{}, api.Argument}, {vm.Config{Dict: 64, Heap: 64}, api.DictOver}, {vm.Config{Dict: -8, Heap: 64}, api.Argument}} {
		s := Script{Config: c.c, Text: "1 .", In: "abc", Fuel: 9}
		is(t, "Run", Run(s), Result{Code: c.want})
		l := Lines(s, "2 .", "3 .")
		if len(l) != 1 {
			t.Fatal(l)
		}
		is(t, "Lines", l[0], Result{Code: c.want})
	}
}

func TestLines(t *testing.T) {
	from := here(t)
	l := Lines(Script{Config: plain, Text: "1 .", In: "xy", Fuel: 100}, "2 . : f", "key", "; f nothing", "", "f bye", "9 .")
	want := []Result{
		{Out: "1 ", Left: 97, In: "xy", Here: from},
		{Out: "1 2 ", Left: 93, In: "xy", Here: from + 24 + 8},
		{Out: "1 2 ", Left: 92, In: "xy", Here: from + 24 + 16},
		{Code: api.Undefined, Out: "1 2 ?-13\n", Left: 92 - 1 - 4 - 1, In: "y", Here: from + 48},
		{Out: "1 2 ?-13\n", Left: 86, In: "y", Here: from + 48},
		{Out: "1 2 ?-13\n", Stack: []int64{121}, Left: 86 - 4 - 2, Here: from + 48, Over: true},
		{Out: "1 2 ?-13\n", Stack: []int64{121}, Left: 80, Here: from + 48, Over: true},
	}
	if len(l) != len(want) {
		t.Fatal(len(l))
	}
	for i := range l {
		is(t, "a line", l[i], want[i])
	}
	if l := Lines(Script{Config: plain, Text: "5", Fuel: 9}); len(l) != 1 || l[0].Left != 8 {
		t.Error(l)
	}
	s := Script{Config: plain, Text: "1 2 + . variable x", Fuel: 30}
	is(t, "the first of Lines", Lines(s, "1", "2")[0], Run(s))
}

func TestLinesAreNotShared(t *testing.T) {
	l := Lines(Script{Config: plain, Text: "1 2", Fuel: 9}, "3")
	l[0].Stack[0] = 9
	if l[1].Stack[0] != 1 {
		t.Error(l)
	}
}

// With more fuel the result is the same, and that much more is left.
func TestMoreFuel(t *testing.T) {
	for _, text := range []string{
		"1 2 + .", ": f 10 0 do i . loop ; f f", "1 0 /\n2 .", ": fac dup 2 < if drop 1 else dup 1- recurse * then ; 8 fac .", "bye 1",
		"class a - ivar x method get x @ endm endclass a new -> get . a new -> none\n5", "' abort catch . 7 throw",
	} {
		s := Script{Config: plain, Text: text, Fuel: 1000}
		a := Run(s)
		if a.Code == api.Fuel {
			t.Fatal(text)
		}
		for _, more := range []int64{1, 5000, 1 << 40} {
			s.Fuel = 1000 + more
			b := Run(s)
			b.Left -= more
			is(t, text, b, a)
		}
		s.Fuel = 1000 - a.Left
		b := Run(s)
		a.Left = 0
		is(t, text, b, a)
		s.Fuel--
		if b := Run(s); b.Code != api.Fuel || !strings.HasSuffix(b.Out, "?-2053\n") || b.Left != 0 {
			t.Errorf("%s, with less: %+v", text, b)
		}
	}
}
