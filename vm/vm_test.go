package vm

import (
	"math"
	"slices"
	"strconv"
	"strings"
	"testing"

	"shed/api"
	"shed/class"
	"shed/code"
	"shed/head"
	"shed/object"
	"shed/table"
)

const least, most = math.MinInt64, math.MaxInt64

var plain = Config{Dict: 8192, Data: 16, Return: 16, Heap: 1024, Slots: 8}

func made(t *testing.T, in string) *Machine {
	t.Helper()
	m, e := New(plain, in)
	if e != api.OK {
		t.Fatal(e)
	}
	m.Fuel = 1000
	return m
}

func xt(t *testing.T, m *Machine, name string) int64 {
	t.Helper()
	w, ok := head.Find(m.Mem, name, m.List)
	if !ok {
		t.Fatalf("no word %q", name)
	}
	return w.XT
}

// lay puts numbers, and the XTs of words, at HERE.
func lay(t *testing.T, m *Machine, l ...any) int64 {
	t.Helper()
	at := m.Here()
	for _, x := range l {
		n := int64(0)
		switch x := x.(type) {
		case string:
			n = xt(t, m, x)
		case int:
			n = int64(x)
		case int64:
			n = x
		}
		if e := m.Comma(n); e != api.OK {
			t.Fatal(e)
		}
	}
	return at
}

// define makes a definition of words and numbers; lit has to be written.
func define(t *testing.T, m *Machine, l ...any) int64 {
	t.Helper()
	return lay(t, m, append([]any{code.Colon}, append(l, "exit")...)...)
}

func isStack(t *testing.T, m *Machine, what string, want ...int64) {
	t.Helper()
	if l := m.D.All(); !slices.Equal(l, want) {
		t.Errorf("%s: D is %v; want %v", what, l, want)
	}
}

func TestNew(t *testing.T) {
	m := made(t, "in")
	if m.In != "in" || m.Out != "" || m.Over || m.Slots != 8 || m.IP != 0 || m.Self != 0 || m.D.Depth() != 0 || m.R.Depth() != 0 || m.Sels.Len() != 0 {
		t.Error("a new machine")
	}
	if m.Size() != 8192+32*8+1024 {
		t.Error(m.Size())
	}
	if m.Root != 8 || m.List != 24 || m.Base() != 10 {
		t.Error(m.Root, m.List, m.Base())
	}
	if n, _ := m.Cell(16); n != 10 {
		t.Error("the cell of the base", n)
	}
	words := head.Words(m.Mem, m.List)
	slices.Reverse(words)
	if len(words) != 87 || words[0].At != 32 {
		t.Fatal(len(words))
	}
	for i, name := range code.Names() {
		n, _ := m.Cell(words[i].XT)
		if words[i].Name != name || words[i].Flags != 0 || n != int64(i)+1 {
			t.Errorf("%d: %v, %d", i, words[i], n)
		}
	}
	base := words[86]
	var l [3]int64
	for i := range l {
		l[i], _ = m.Cell(base.XT + 8*int64(i))
	}
	if base.Name != "base" || base.Flags != 0 || l != [3]int64{code.Constant, 16, xt(t, m, "(caught)")} || m.Here() != base.XT+24 {
		t.Error(base, l, m.Here())
	}
	if m.D.Push(5) != api.OK || m.R.Push(6) != api.OK {
		t.Error("Push")
	}
	if n, _ := m.Cell(8192); n != 5 {
		t.Error("D is after the dictionary", n)
	}
	if n, _ := m.Cell(8192 + 16*8); n != 6 {
		t.Error("R is after D", n)
	}
	if a, e := m.Heap.Alloc(8); a != 8192+32*8+8 || e != api.OK {
		t.Error("the heap is after R", a, e)
	}
	if l, e := m.Heap.Blocks(); !slices.Equal(l, []int64{-16, 1008}) || e != api.OK {
		t.Error(l, e)
	}
}

func TestItsStacksCodes(t *testing.T) {
	m := made(t, "")
	many := make([]int64, 17)
	for _, e := range []struct{ is, want api.Code }{{m.D.Push(many...), api.Over}, {m.R.Push(many...), api.ReturnOver}} {
		if e.is != e.want {
			t.Error(e)
		}
	}
	if _, e := m.D.Pop(); e != api.Under {
		t.Error(e)
	}
	if _, e := m.R.Pop(); e != api.ReturnUp {
		t.Error(e)
	}
	for i := range 1024 {
		if id, e := m.Sels.Put("s" + strconv.Itoa(i)); id != int64(i)+1 || e != api.OK {
			t.Error(id, e)
		}
	}
	if _, e := m.Sels.Put("more"); e != api.TableFull {
		t.Error(e)
	}
}

func TestNewRefused(t *testing.T) {
	big := int64(api.MaxMem)
	for _, c := range []struct {
		c    Config
		want api.Code
	}{
		{Config{Dict: -8, Heap: 64}, api.Argument}, {Config{Dict: 8192, Data: -1, Heap: 64}, api.Argument}, {Config{Dict: 8192, Return: -1, Heap: 64}, api.Argument},
		{Config{Dict: 8192, Heap: -8}, api.Argument}, {Config{Dict: 8196, Heap: 60}, api.Argument}, {Config{Dict: 8192, Heap: 68}, api.Argument},
		{Config{Dict: big + 8, Heap: 64}, api.Argument}, {Config{Dict: big, Heap: 64}, api.Argument}, {Config{Dict: 8192, Heap: big}, api.Argument},
		{Config{Dict: 8192, Data: 1 << 20, Heap: 64}, api.Argument}, {Config{Dict: 8192, Data: most, Heap: 64}, api.Argument},
		{Config{Dict: 8192, Return: 1 << 61, Heap: 64}, api.Argument}, {Config{Dict: 8192, Data: least, Return: least, Heap: 64}, api.Argument},
		{Config{Dict: 8192, Heap: 8}, api.Argument}, {Config{Dict: 8192}, api.Argument}, {Config{}, api.Argument},
		{Config{Dict: 0, Heap: 16}, api.DictOver}, {Config{Dict: 8, Heap: 16}, api.DictOver}, {Config{Dict: 1024, Heap: 16}, api.DictOver},
		{Config{Dict: 0, Heap: 8}, api.Argument},
		{Config{Dict: 8192, Heap: 16}, api.OK}, {Config{Dict: 8192, Heap: 16, Slots: -5}, api.OK},
	} {
		m, e := New(c.c, "")
		if e != c.want || (m != nil) != (e == api.OK) {
			t.Errorf("New(%v): %d", c.c, e)
		}
		if m != nil && m.Slots != c.c.Slots {
			t.Error(m.Slots)
		}
	}
	// The dictionary needs exactly up to HERE.
	here := made(t, "").Here()
	for dict, want := range map[int64]api.Code{here: api.OK, here - 8: api.DictOver, here - 16: api.DictOver, here - 40: api.DictOver} {
		if _, e := New(Config{Dict: dict, Heap: 16}, ""); e != want {
			t.Errorf("a dictionary of %d: %d", dict, e)
		}
	}
}

func TestStackPrimitives(t *testing.T) {
	for _, c := range []struct {
		word          string
		before, after []int64
		want          api.Code
	}{
		{"dup", []int64{1, 2}, []int64{1, 2, 2}, 0}, {"drop", []int64{1, 2}, []int64{1}, 0}, {"swap", []int64{1, 2, 3}, []int64{1, 3, 2}, 0},
		{"over", []int64{1, 2}, []int64{1, 2, 1}, 0}, {"rot", []int64{0, 1, 2, 3}, []int64{0, 2, 3, 1}, 0}, {"nip", []int64{1, 2}, []int64{2}, 0},
		{"tuck", []int64{1, 2}, []int64{2, 1, 2}, 0}, {"?dup", []int64{1, 0}, []int64{1, 0}, 0}, {"?dup", []int64{1, -2}, []int64{1, -2, -2}, 0},
		{"pick", []int64{7, 8, 9, 0}, []int64{7, 8, 9, 9}, 0}, {"pick", []int64{7, 8, 9, 2}, []int64{7, 8, 9, 7}, 0},
		{"pick", []int64{7, 8, 9, 3}, []int64{7, 8, 9}, api.Under}, {"pick", []int64{7, -1}, []int64{7}, api.Under}, {"pick", []int64{7, least}, []int64{7}, api.Under},
		{"pick", []int64{7, most}, []int64{7}, api.Under}, {"pick", []int64{7, 1 << 32}, []int64{7}, api.Under}, {"pick", []int64{0}, nil, api.Under},
		{"depth", nil, []int64{0}, 0}, {"depth", []int64{5, 5}, []int64{5, 5, 2}, 0},
		{"+", []int64{2, 3}, []int64{5}, 0}, {"-", []int64{2, 3}, []int64{-1}, 0}, {"/", []int64{-7, 2}, []int64{-4}, 0}, {"mod", []int64{-7, 2}, []int64{1}, 0},
		{"/", []int64{9, 1, 0}, []int64{9}, api.Zero}, {"mod", []int64{1, 0}, nil, api.Zero}, {"<", []int64{1, 2}, []int64{-1}, 0},
		{"lshift", []int64{1, 4}, []int64{16}, 0}, {"u<", []int64{1, -1}, []int64{-1}, 0}, {"max", []int64{1, 2}, []int64{2}, 0},
		{"negate", []int64{5}, []int64{-5}, 0}, {"0=", []int64{0}, []int64{-1}, 0}, {"cells", []int64{3}, []int64{24}, 0}, {"char+", []int64{3}, []int64{4}, 0},
		{"dup", nil, nil, api.Under}, {"drop", nil, nil, api.Under}, {"swap", []int64{1}, []int64{1}, api.Under}, {"rot", []int64{1, 2}, []int64{1, 2}, api.Under},
		{"over", []int64{1}, []int64{1}, api.Under}, {"tuck", []int64{1}, []int64{1}, api.Under}, {"nip", []int64{1}, []int64{1}, api.Under},
		{"+", []int64{1}, []int64{1}, api.Under}, {"/", []int64{0}, []int64{0}, api.Under}, {"negate", nil, nil, api.Under}, {"?dup", nil, nil, api.Under}, {"pick", nil, nil, api.Under},
		{"!", []int64{5}, []int64{5}, api.Under}, {"type", []int64{5}, []int64{5}, api.Under}, {"resize", []int64{5}, []int64{5}, api.Under}, {"(do)", []int64{5}, []int64{5}, api.Under},
		{"@", []int64{16}, []int64{10}, 0}, {"@", []int64{17}, nil, api.Align}, {"@", []int64{-8}, nil, api.Address}, {"c@", []int64{16}, []int64{10}, 0},
		{"c@", []int64{1 << 40}, nil, api.Address}, {"@", []int64{8192}, []int64{8192}, 0},
		{"execute", []int64{0}, nil, api.Only}, {"execute", []int64{3}, nil, api.Align}, {"execute", []int64{-8}, nil, api.Address}, {"execute", nil, nil, api.Under},
		{"throw", []int64{4, -7}, []int64{4}, -7}, {"throw", []int64{4, 0}, []int64{4}, 0}, {"throw", []int64{most}, nil, most}, {"abort", []int64{4}, []int64{4}, api.Abort},
		{"self", nil, []int64{0}, 0}, {"new", []int64{16}, nil, api.NoClass}, {"new", nil, nil, api.Under}, {"classof", []int64{16}, nil, api.NoClass},
		{"free", []int64{5}, []int64{-60}, 0}, {"allocate", []int64{-1}, []int64{0, -59}, 0}, {"resize", []int64{5, 6}, []int64{5, -60}, 0},
		{"exit", nil, nil, api.ReturnUp}, {"r>", nil, nil, api.ReturnUp}, {"r@", nil, nil, api.ReturnUp}, {"i", nil, nil, api.ReturnUp}, {"j", nil, nil, api.ReturnUp},
		{"unloop", nil, nil, api.ReturnUp}, {"(exitm)", nil, nil, api.ReturnUp}, {"(caught)", nil, nil, api.ReturnUp},
		{"lit", nil, []int64{0}, api.Only}, {"bye", []int64{1}, []int64{1}, 0}, {"base", nil, []int64{16}, 0},
	} {
		m := made(t, "")
		m.D.Push(c.before...)
		if e := m.Run(xt(t, m, c.word)); e != c.want {
			t.Errorf("%v %s: %d; want %d", c.before, c.word, e, c.want)
		}
		isStack(t, m, c.word, c.after...)
		if m.Over != (c.word == "bye") {
			t.Error("over", m.Over)
		}
	}
}

// Every primitive takes its numbers before it pushes, so they are gone, also where there is no room.
func TestNoRoom(t *testing.T) {
	for _, c := range []struct {
		word       string
		full, left int
	}{
		{"dup", 16, 15}, {"over", 16, 14}, {"tuck", 16, 14}, {"?dup", 16, 15}, {"depth", 16, 16}, {"here", 16, 16}, {"self", 16, 16}, {"key", 16, 16},
		{"base", 16, 16}, {"allocate", 16, 15}, {"lit", 16, 16},
	} {
		m := made(t, "ab")
		for range c.full {
			m.D.Push(1)
		}
		if e := m.Run(xt(t, m, c.word)); e != api.Over || m.D.Depth() != c.left {
			t.Errorf("%s: %d, and %d are left", c.word, e, m.D.Depth())
		}
		if c.word == "key" && m.In != "b" {
			t.Errorf("key: %q is left", m.In)
		}
	}
	m := made(t, "")
	m.R.Push(make([]int64, 16)...)
	m.D.Push(1, 2, 3, 4)
	for _, c := range []struct {
		word string
		left int
	}{{"(do)", 2}, {">r", 1}, {"catch", 0}} {
		if e := m.Run(xt(t, m, c.word)); e != api.ReturnOver || m.D.Depth() != c.left || m.R.Depth() != 16 {
			t.Errorf("%s: %d, and %d are left", c.word, e, m.D.Depth())
		}
	}
	m.D.Push(make([]int64, 16)...)
	for _, c := range []struct {
		word string
		left int
	}{{"r@", 16}, {"j", 16}, {"r>", 15}, {"(caught)", 11}} {
		if e := m.Run(xt(t, m, c.word)); e != api.Over || m.R.Depth() != c.left || m.D.Depth() != 16 {
			t.Errorf("%s: %d, and %d are left", c.word, e, m.R.Depth())
		}
	}
	d := define(t, m)
	m.R.Push(make([]int64, 16-m.R.Depth())...)
	if e := m.Run(d); e != api.ReturnOver {
		t.Error(e)
	}
}

func TestDefinitions(t *testing.T) {
	m := made(t, "")
	five := define(t, m, "lit", 2, "lit", 3, "+")
	if e := m.Run(five); e != api.OK || m.IP != 0 || m.R.Depth() != 0 || m.Fuel != 1000-5 {
		t.Error(e, m.IP, m.R.Depth(), m.Fuel)
	}
	isStack(t, m, "lit 2 lit 3 +", 5)
	twice := define(t, m, five, five, "*")
	if e := m.Run(twice); e != api.OK {
		t.Error(e)
	}
	isStack(t, m, "twice", 5, 25)
	m.D.Drop(0)
	branch := lay(t, m, code.Colon, "lit", 1, "branch", m.Here()+7*8, "lit", 2, "lit", 3, "exit")
	if e := m.Run(branch); e != api.OK {
		t.Error(e)
	}
	isStack(t, m, "branch", 1, 3)
	for n, want := range map[int64][]int64{0: {3}, 1: {2, 3}, -1: {2, 3}} {
		m.D.Drop(0)
		m.D.Push(n)
		if e := m.Run(lay(t, m, code.Colon, "0branch", m.Here()+5*8, "lit", 2, "lit", 3, "exit")); e != api.OK {
			t.Error(e)
		}
		isStack(t, m, "0branch", want...)
	}
	m.D.Drop(0)
	back := define(t, m, "lit", 7, ">r", "r@", "lit", 8, ">r", "i", "r>", "r>")
	if e := m.Run(back); e != api.OK {
		t.Error(e)
	}
	isStack(t, m, "r", 7, 8, 8, 7)
}

func TestOtherWords(t *testing.T) {
	m := made(t, "")
	v := lay(t, m, code.Variable, 5)
	c := lay(t, m, code.Constant, -6)
	f := lay(t, m, code.Field, 16)
	method := lay(t, m, code.Method, "exit")
	odd := lay(t, m, 87)
	for _, c := range []struct {
		xt   int64
		want api.Code
		d    []int64
	}{{v, 0, []int64{v + 8}}, {c, 0, []int64{-6}}, {f, 0, []int64{16}}, {method, api.Only, nil}, {odd, api.Only, nil}, {0, api.Only, nil}, {-8, api.Address, nil}, {4, api.Align, nil}} {
		m.D.Drop(0)
		if e := m.Run(c.xt); e != c.want {
			t.Errorf("%d: %d", c.xt, e)
		}
		isStack(t, m, "a word", c.d...)
	}
	m.D.Drop(0)
	last := m.Size() - 8
	for _, n := range []int64{code.Constant, code.Field} {
		m.SetCell(last, n)
		if e := m.Run(last); e != api.Address {
			t.Errorf("%d at the end: %d", n, e)
		}
	}
	m.SetCell(last, code.Variable)
	if e := m.Run(last); e != api.OK {
		t.Error(e)
	}
	isStack(t, m, "a variable at the end", m.Size())
	m.SetCell(last, code.Colon)
	if e := m.Run(last); e != api.Address || m.R.Depth() != 1 {
		t.Error(e)
	}
	m.Fuel = 1 // reading fails, but there is no fuel to throw it
	if e := m.Run(last); e != api.Fuel || m.Fuel != 0 {
		t.Error(e)
	}
	m.Fuel = 2
	if e := m.Run(last); e != api.Address || m.Fuel != 0 {
		t.Error(e)
	}
	m.SetCell(last, xt(t, m, "lit"))
	m.Fuel = 100
	if e := m.Run(define(t, m, "branch", last)); e != api.Address {
		t.Error("an inline number that doesn't exist", e)
	}
}

func TestLoops(t *testing.T) {
	for _, c := range []struct {
		limit, start, step int64
		want               []int64
	}{
		{3, 0, 1, []int64{0, 1, 2}}, {10, 0, 4, []int64{0, 4, 8}}, {0, 3, -1, []int64{3, 2, 1, 0}}, {0, 9, -4, []int64{9, 5, 1}},
		{8, 0, 4, []int64{0, 4}}, {least, most - 1, 1, []int64{most - 1, most}}, {-1, -4, 2, []int64{-4, -2}}, {5, 4, 1, []int64{4}}, {5, 5, -1, []int64{5}},
	} {
		m := made(t, "")
		d := define(t, m, "(do)", "i", "lit", c.step, "(+loop)", m.Here()+2*8)
		m.D.Push(c.limit, c.start)
		if e := m.Run(d); e != api.OK || m.R.Depth() != 0 {
			t.Errorf("%v: %d", c, e)
		}
		isStack(t, m, "(+loop)", c.want...)
		if c.step != 1 {
			continue
		}
		m.D.Drop(0)
		d = define(t, m, "(do)", "i", "(loop)", m.Here()+2*8)
		m.D.Push(c.limit, c.start)
		if e := m.Run(d); e != api.OK || m.R.Depth() != 0 {
			t.Errorf("%v: %d", c, e)
		}
		isStack(t, m, "(loop)", c.want...)
	}
	m := made(t, "")
	from := m.Here()
	nested := define(t, m, "lit", 2, "lit", 0, "(do)", "lit", 12, "lit", 10, "(do)", "j", "i", "(loop)", from+88, "(loop)", from+48)
	if e := m.Run(nested); e != api.OK {
		t.Error(e)
	}
	isStack(t, m, "nested", 0, 10, 0, 11, 1, 10, 1, 11)
	m.D.Drop(0)
	left := define(t, m, "lit", 9, "lit", 0, "(do)", "i", "unloop")
	if e := m.Run(left); e != api.OK {
		t.Error(e)
	}
	isStack(t, m, "unloop", 0)
	for depth, word := range map[int]string{0: "(loop)", 1: "(loop)"} {
		m.R.Drop(0)
		m.R.Push(make([]int64, depth)...)
		if e := m.Run(xt(t, m, word)); e != api.ReturnUp || m.R.Depth() != depth {
			t.Error(e, m.R.Depth())
		}
	}
	m.D.Drop(0)
	if e := m.Run(xt(t, m, "(+loop)")); e != api.Under {
		t.Error(e)
	}
}

func TestMemoryPrimitives(t *testing.T) {
	m := made(t, "")
	here := m.Here()
	run := func(want api.Code, word string, before ...int64) {
		t.Helper()
		m.D.Drop(0)
		m.D.Push(before...)
		if e := m.Run(xt(t, m, word)); e != want {
			t.Errorf("%v %s: %d", before, word, e)
		}
	}
	run(api.OK, ",", -3)
	run(api.OK, "c,", 65)
	run(api.Align, ",", 1)
	run(api.OK, "here")
	isStack(t, m, "here", here+9)
	run(api.OK, "align")
	run(api.OK, "allot", 24)
	if m.Here() != here+16+24 {
		t.Error(m.Here())
	}
	run(api.OK, "allot", -24)
	run(api.DictOver, "allot", 1<<40)
	run(api.DictOver, "allot", least)
	if s, _ := m.Text(here, 16); s != "\xfd"+strings.Repeat("\xff", 7)+"A\x00\x00\x00\x00\x00\x00\x00" || m.Here() != here+16 {
		t.Errorf("%q", s)
	}
	run(api.OK, "!", 77, here)
	run(api.OK, "+!", 3, here)
	run(api.OK, "c!", 258, here+9)
	if s, _ := m.Text(here, 10); s != "\x50\x00\x00\x00\x00\x00\x00\x00A\x02" {
		t.Errorf("%q", s)
	}
	for word, want := range map[string]api.Code{"!": api.Align, "+!": api.Align, "c!": api.OK} {
		run(want, word, 1, here+1)
		isStack(t, m, word)
	}
	for _, word := range []string{"!", "+!", "c!"} {
		run(api.Address, word, 1, -1)
	}
	m.Allot(8192 - m.Here() - 4)
	run(api.DictOver, ",", 1)
	run(api.OK, "align")
	run(api.DictOver, "c,", 1)
}

func TestOutput(t *testing.T) {
	m := made(t, "")
	run := func(want api.Code, word string, before ...int64) {
		t.Helper()
		m.D.Drop(0)
		m.D.Push(before...)
		if e := m.Run(xt(t, m, word)); e != want {
			t.Errorf("%v %s: %d", before, word, e)
		}
	}
	run(api.OK, "emit", 65+256)
	run(api.OK, "emit", -1)
	run(api.OK, "cr")
	run(api.OK, "space")
	run(api.OK, ".", -31)
	run(api.OK, "u.", -1)
	m.SetText(m.Here(), "hello")
	run(api.OK, "type", m.Here(), 5)
	run(api.OK, "type", m.Here(), 0)
	run(api.Address, "type", m.Here(), -1)
	run(api.Address, "type", m.Size()-1, 2)
	if m.Out != "A\xff\n -31 18446744073709551615 hello" {
		t.Errorf("%q", m.Out)
	}
	m.Out = ""
	m.SetCell(16, 16)
	run(api.OK, ".", -31)
	run(api.OK, "u.", 255)
	for _, base := range []int64{0, 1, 37, -10} {
		m.SetCell(16, base)
		run(api.Base, ".", 5)
		run(api.Base, "u.", 5)
		isStack(t, m, ".")
		if m.Base() != base {
			t.Error(m.Base())
		}
	}
	if m.Out != "-1F FF " {
		t.Errorf("%q", m.Out)
	}
	m.Out = ""
	m.Put(strings.Repeat("x", MostOut-2))
	m.Put("abc")
	m.Put("d")
	if len(m.Out) != 65536 || !strings.HasSuffix(m.Out, "xab") {
		t.Error(len(m.Out))
	}
	run(api.OK, "cr")
	if len(m.Out) != 65536 {
		t.Error(len(m.Out))
	}
}

func TestKey(t *testing.T) {
	m := made(t, "a\xff")
	for range 3 {
		if e := m.Run(xt(t, m, "key")); e != api.OK {
			t.Error(e)
		}
	}
	isStack(t, m, "key", 97, 255, -1)
	if m.In != "" {
		t.Errorf("%q", m.In)
	}
}

func TestHeapPrimitives(t *testing.T) {
	m := made(t, "")
	run := func(word string, before []int64, after ...int64) {
		t.Helper()
		m.D.Drop(0)
		m.D.Push(before...)
		if e := m.Run(xt(t, m, word)); e != api.OK {
			t.Errorf("%v %s: %d", before, word, e)
		}
		isStack(t, m, word, after...)
	}
	a := m.Size() - 1024 + 8
	run("allocate", []int64{10}, a, 0)
	run("allocate", []int64{2000}, 0, -59)
	run("resize", []int64{a, 5}, a, 0)
	run("resize", []int64{a, 100}, a+24, 0)
	run("resize", []int64{a + 24, 5000}, a+24, -61)
	run("resize", []int64{a, 5}, a, -60)
	run("free", []int64{a + 24}, 0)
	run("free", []int64{a + 24}, -60)
	m.SetCell(a-8, 1)
	run("free", []int64{a}, -2052)
	run("allocate", []int64{1}, 0, -2052)
}

func TestFuel(t *testing.T) {
	m := made(t, "")
	d := define(t, m, "lit", 1, "drop")
	for fuel, want := range map[int64]api.Code{4: api.OK, 3: api.Fuel, 1: api.Fuel, 0: api.Fuel, -3: api.Fuel} {
		m.Fuel = fuel
		m.R.Drop(0)
		m.D.Drop(0)
		if e := m.Run(d); e != want {
			t.Errorf("with %d: %d", fuel, e)
		}
		if m.Fuel != min(fuel, 0) {
			t.Errorf("with %d: %d are left", fuel, m.Fuel)
		}
	}
	m.Fuel = 500
	forever := define(t, m, "branch", m.Here()+8)
	if e := m.Run(forever); e != api.Fuel || m.Fuel != 0 {
		t.Error(e, m.Fuel)
	}
	m.Fuel = 100
	guarded := define(t, m, "lit", forever, "catch", "lit", 5)
	if e := m.Run(guarded); e != api.Fuel || m.Fuel != 0 {
		t.Error("Fuel isn't caught", e)
	}
	m.Fuel = 100
	thrown := define(t, m, "lit", -2053, "throw")
	guarded = define(t, m, "lit", thrown, "catch", "lit", 5)
	m.D.Drop(0)
	if e := m.Run(guarded); e != api.Fuel || m.D.Depth() != 0 {
		t.Error("Fuel isn't caught", e)
	}
	// execute and catch enter a word within their own step.
	m.Fuel = 2
	m.R.Drop(0)
	m.D.Drop(0)
	m.D.Push(1, xt(t, m, "dup"), xt(t, m, "execute"), xt(t, m, "execute"))
	if e := m.Run(xt(t, m, "execute")); e != api.OK || m.Fuel != 1 {
		t.Error(e, m.Fuel)
	}
	isStack(t, m, "execute", 1, 1)
}

func TestCatch(t *testing.T) {
	m := made(t, "")
	fails := define(t, m, "lit", 1, "lit", 2, "lit", 42, "throw")
	fine := define(t, m, "lit", 3)
	d := define(t, m, "lit", 9, "lit", fails, "catch", "lit", fine, "catch", "lit", 7)
	if e := m.Run(d); e != api.OK || m.R.Depth() != 0 {
		t.Error(e)
	}
	isStack(t, m, "catch", 9, 42, 3, 0, 7)
	m.D.Drop(0)
	inner := define(t, m, "lit", fails, "catch", "throw")
	outer := define(t, m, "lit", 5, "lit", inner, "catch", "lit", 6)
	if e := m.Run(outer); e != api.OK {
		t.Error(e)
	}
	isStack(t, m, "nested", 5, 42, 6)
	m.D.Drop(0)
	m.R.Drop(0)
	m.D.Push(1, 0, xt(t, m, "/")) // the numbers that it took are back as far as the depth goes, as they stand there
	if e := m.Run(define(t, m, "catch")); e != api.OK {
		t.Error(e)
	}
	isStack(t, m, "/ caught", 1, 0, -10)
	m.D.Drop(0)
	m.D.Push(-2)
	if e := m.Run(define(t, m, "catch")); e != api.OK {
		t.Error(e)
	}
	isStack(t, m, "a word that doesn't exist", -9)
	m.D.Drop(0)
	missing := define(t, m, "branch", -8)
	m.D.Push(missing)
	m.Fuel = 100
	if e := m.Run(define(t, m, "catch", "lit", 4)); e != api.OK {
		t.Error(e)
	}
	isStack(t, m, "reading caught", -9, 4)
	if m.Fuel != 100-1-1-1-1-1-1 {
		t.Error(m.Fuel)
	}
	m.R.Drop(0)
	m.D.Drop(0)
	if e := m.Run(fails); e != 42 || m.R.Depth() != 1 {
		t.Error("a code that isn't caught", e, m.R.Depth())
	}
	isStack(t, m, "what has been done stays done", 1, 2)
}

// What catch pushed may have been changed, or be gone.
func TestCatchDamaged(t *testing.T) {
	for _, c := range []struct {
		what   string
		change []any
		want   api.Code
		d      []int64
	}{
		{"a depth below 0", []any{"r>", "r>", "drop", "lit", -1, ">r", ">r", "abort"}, api.Abort, nil},
		{"a great depth", []any{"r>", "r>", "drop", "lit", 1<<20 + 1, ">r", ">r", "abort"}, api.Abort, nil},
		{"a depth beyond D", []any{"r>", "r>", "drop", "lit", 17, ">r", ">r", "abort"}, api.Abort, nil},
		{"a depth that leaves no room", []any{"r>", "r>", "drop", "lit", 16, ">r", ">r", "abort"}, api.Abort, make([]int64, 16)},
		{"another depth", []any{"lit", 8, "lit", 7, "r>", "r>", "drop", "lit", 1, ">r", ">r", "abort"}, api.OK, []int64{8, -1, 5}},
		{"a handler below 0", []any{"r>", "drop", "lit", -1, ">r", "abort"}, api.OK, []int64{-1, 5}},
		{"a handler that is too great", []any{"r>", "drop", "lit", 1<<20 + 1, ">r", "abort"}, api.OK, []int64{-1, 5}},
		{"fewer numbers", []any{"r>", "drop", "r>", "drop", "r>", "drop", "abort"}, api.OK, []int64{-1, 5}},
	} {
		m := made(t, "")
		// The definition's own address is on R above what catch pushed, so it is taken away first.
		l := append([]any{"r>", "drop"}, c.change...)
		bad := define(t, m, l...)
		d := define(t, m, "lit", bad, "catch", "lit", 5)
		if e := m.Run(d); e != c.want {
			t.Errorf("%s: %d", c.what, e)
		}
		if c.what == "a depth that leaves no room" {
			if m.D.Depth() != 16 {
				t.Error(c.what, m.D.Depth())
			}
			continue
		}
		if c.want == api.OK {
			isStack(t, m, c.what, c.d...)
		}
	}
	// A handler that R can't have.
	m := made(t, "")
	first := define(t, m, "r>", "drop", "r>", "drop", "lit", 17, ">r", "abort")
	d := define(t, m, "lit", first, "catch", "drop", "abort")
	if e := m.Run(d); e != api.Abort || m.R.Depth() == 0 {
		t.Error(e)
	}
}

// HANDLER is what catch pushes last, so a word that it enters can see it.
func TestHandler(t *testing.T) {
	m := made(t, "")
	see := xt(t, m, "r@")
	for n, want := range map[int64]int64{0: 0, 3: 3, 1 << 20: 1 << 20, 1<<20 + 1: 0, -1: 0, least: 0, most: 0} {
		m.D.Drop(0)
		m.R.Drop(0)
		change := define(t, m, "r>", "drop", "r>", "drop", "lit", n, ">r", "abort")
		if e := m.Run(define(t, m, "lit", change, "catch", "drop", "lit", see, "catch")); e != api.OK {
			t.Errorf("%d: %d", n, e)
		}
		isStack(t, m, "HANDLER", want, 0)
	}
	m.D.Drop(0)
	m.R.Drop(0)
	m.D.Push(see)
	if e := m.Run(define(t, m, "catch")); e != api.OK {
		t.Error(e)
	}
	isStack(t, m, "HANDLER at first", 0, 0)
	m.D.Drop(0)
	m.D.Push(7, xt(t, m, "abort"))
	if e := m.Run(xt(t, m, "catch")); e != api.OK || m.R.Depth() != 0 { // HANDLER is 4 here, the least one
		t.Error(e)
	}
	isStack(t, m, "caught", 7, -1)
	// A run forgets the handler of the run before.
	m.D.Drop(0)
	if e := m.Run(define(t, m, "lit", define(t, m, "lit", 0, ">r", "bye"), "catch")); e != api.OK || !m.Over {
		t.Error(e)
	}
	m.Over = false
	if e := m.Run(xt(t, m, "abort")); e != api.Abort {
		t.Error(e)
	}
}

// A primitive may be in the last cell of the memory, where no inline number follows.
func TestInlineAtTheEnd(t *testing.T) {
	for _, name := range code.Names() {
		if code.Inline(name) == 0 {
			continue
		}
		for n := range code.Inline(name) {
			m := made(t, "")
			at := m.Size() - 8*int64(n+1)
			m.SetCell(at, xt(t, m, name))
			m.D.Push(1, 2)
			m.R.Push(9, 3)
			if e := m.Run(define(t, m, "branch", at)); e != api.Address || m.IP != m.Size() {
				t.Errorf("%s: %d, %d", name, e, m.IP)
			}
			if m.R.Depth() != 3 {
				t.Errorf("%s: R has %d", name, m.R.Depth())
			}
		}
	}
}

func TestOver(t *testing.T) {
	m := made(t, "")
	if e := m.Run(define(t, m, "lit", 1, "bye", "lit", 2)); e != api.OK || !m.Over || m.Fuel != 1000-3 {
		t.Error(e, m.Over, m.Fuel)
	}
	isStack(t, m, "bye", 1)
	if e := m.Run(define(t, m, "lit", 2)); e != api.OK || m.Fuel != 1000-4 {
		t.Error("one step is made", e, m.Fuel)
	}
}

// counter is a class with a field, and a method that adds to it, and one below it.
func counter(t *testing.T, m *Machine) (a, b, add, field int64) {
	t.Helper()
	a, e := class.New(m.Space, m.Root, 0, 8)
	if e != api.OK {
		t.Fatal(e)
	}
	offset, _ := class.Grow(m.Mem, a, 8)
	field = lay(t, m, code.Field, offset)
	add = lay(t, m, code.Method, field, "+!", "(exitm)")
	class.Set(m.Mem, m.Root, a, 1, add)
	b, e = class.New(m.Space, m.Root, a, 0)
	if e != api.OK {
		t.Fatal(e)
	}
	return a, b, add, field
}

func TestObjects(t *testing.T) {
	m := made(t, "")
	a, b, add, field := counter(t, m)
	twice := lay(t, m, code.Method, "dup", "(super)", a, 1, "(super)", a, 1, "self", "(exitm)")
	class.Set(m.Mem, m.Root, b, 1, twice)
	m.D.Push(a)
	if e := m.Run(xt(t, m, "new")); e != api.OK {
		t.Fatal(e)
	}
	m.D.Push(b)
	if e := m.Run(xt(t, m, "new")); e != api.OK {
		t.Fatal(e)
	}
	l := m.D.All()
	x, y := l[0], l[1]
	if e := m.Run(xt(t, m, "classof")); e != api.OK {
		t.Error(e)
	}
	isStack(t, m, "classof", x, b)
	m.D.Drop(0)
	if e := m.Run(define(t, m, "lit", 5, "lit", x, "(send)", 1, "lit", 7, "lit", y, "(send)", 1, "self")); e != api.OK || m.Self != 0 {
		t.Error(e, m.Self)
	}
	isStack(t, m, "(send)", y, 0)
	if n, _ := m.Cell(x + 8); n != 5 {
		t.Error(n)
	}
	if n, _ := m.Cell(y + 8); n != 14 {
		t.Error(n)
	}
	m.D.Drop(0)
	if e := m.Run(define(t, m, "lit", 4, "lit", y, "(call)", add)); e != api.OK {
		t.Error(e)
	}
	if n, _ := m.Cell(y + 8); n != 18 {
		t.Error(n)
	}
	if e := m.Run(field); e != api.OK {
		t.Error(e)
	}
	isStack(t, m, "a field without an object", 8)
}

func TestObjectCodes(t *testing.T) {
	m := made(t, "")
	a, _, add, field := counter(t, m)
	at, _ := object.Heap(m.Heap, m.Mem, a)
	table.Put(m.Mem, mustRead(t, m, a).Table, table.Entry{Sel: 2, XT: field, Class: a})
	table.Put(m.Mem, mustRead(t, m, a).Table, table.Entry{Sel: 3, XT: -8, Class: a})
	for _, c := range []struct {
		l    []any
		want api.Code
	}{
		{[]any{"(send)", 1}, api.Under}, {[]any{"lit", 3, "(send)", 1}, api.NoClass}, {[]any{"lit", at, "(send)", 9}, api.NoMethod}, {[]any{"lit", at, "(send)", 0}, api.NoMethod},
		{[]any{"lit", at, "(send)", 2}, api.Only}, {[]any{"lit", at, "(send)", 3}, api.Only}, {[]any{"lit", at, "(call)", field}, api.Only},
		{[]any{"lit", at, "(call)", -8}, api.Only}, {[]any{"lit", at, "(call)", 3}, api.Only}, {[]any{"(call)", add}, api.Under},
		{[]any{"(super)", a, 9}, api.NoMethod}, {[]any{"(super)", 0, 1}, api.NoMethod}, {[]any{"(super)", a, 2}, api.Only}, {[]any{"(super)", a, 1}, api.Under},
		{[]any{"lit", a + 8, "new"}, api.NoClass}, {[]any{"lit", at, "(call)", define(t, m, "lit", 5)}, api.Only}, {[]any{"lit", at + 8, "classof"}, api.NoClass},
	} {
		m.D.Drop(0)
		m.R.Drop(0)
		if e := m.Run(define(t, m, c.l...)); e != c.want {
			t.Errorf("%v: %d; want %d", c.l, e, c.want)
		}
	}
	m.D.Drop(0)
	m.R.Drop(0)
	m.R.Push(make([]int64, 14)...)
	if e := m.Run(define(t, m, "lit", at, "(send)", 1)); e != api.ReturnOver || m.R.Depth() != 15 {
		t.Error("SELF and IP are pushed both, or none", e, m.R.Depth())
	}
	m.R.Drop(0)
	m.D.Drop(0)
	for {
		if _, e := m.Heap.Alloc(8); e != api.OK {
			break
		}
	}
	m.D.Push(a)
	if e := m.Run(xt(t, m, "new")); e != api.Allocate {
		t.Error(e)
	}
	m.SetCell(a+16, 4)
	m.D.Push(a)
	if e := m.Run(xt(t, m, "new")); e != api.Argument {
		t.Error(e)
	}
	m.SetCell(m.Root, 0) // a class, but none of the ROOT
	m.D.Push(a)
	if e := m.Run(xt(t, m, "new")); e != api.NoClass {
		t.Error(e)
	}
	m.D.Drop(0)
	m.R.Drop(0)
	if e := m.Run(define(t, m, "lit", at, "(call)", define(t, m, "lit", 5))); e != api.Only || m.D.Depth() != 0 || m.R.Depth() != 1 {
		t.Error(e, m.D.All())
	}
}

func mustRead(t *testing.T, m *Machine, at int64) class.Class {
	t.Helper()
	c, ok := class.Read(m.Mem, at)
	if !ok {
		t.Fatal("no class")
	}
	return c
}

func TestSelfAfterACode(t *testing.T) {
	m := made(t, "")
	a, _, _, _ := counter(t, m)
	at, _ := object.Heap(m.Heap, m.Mem, a)
	class.Set(m.Mem, m.Root, a, 2, lay(t, m, code.Method, "self", "abort"))
	sends := define(t, m, "lit", at, "(send)", 2)
	class.Set(m.Mem, m.Root, a, 3, lay(t, m, code.Method, "lit", sends, "catch", "self", "(exitm)"))
	if e := m.Run(define(t, m, "lit", at, "(send)", 3, "self")); e != api.OK {
		t.Error(e)
	}
	isStack(t, m, "SELF is what it was", -1, at, 0)
}

func TestSend(t *testing.T) {
	m := made(t, "")
	a, _, add, _ := counter(t, m)
	at, _ := object.Heap(m.Heap, m.Mem, a)
	m.IP, m.Self = 24, 40
	if e := m.Send(at, 1); e != api.OK || m.IP != add+8 || m.Self != at || !slices.Equal(m.R.All(), []int64{40, 24}) {
		t.Error(e, m.IP, m.Self, m.R.All())
	}
	if e := m.Send(at, 2); e != api.NoMethod {
		t.Error(e)
	}
	if e := m.Send(at+8, 1); e != api.NoClass {
		t.Error(e)
	}
	m.R.Push(make([]int64, 13)...)
	if e := m.Send(at, 1); e != api.ReturnOver || m.R.Depth() != 15 {
		t.Error(e)
	}
}

func TestNil(t *testing.T) {
	var m *Machine
	if m.Run(0) != api.Argument || m.Base() != 0 {
		t.Error("Run, Base")
	}
	m.Put("a")
	if m.Send(0, 1) == api.OK {
		t.Error("Send")
	}
}

// Whatever is in the memory, a run ends within its fuel, and nothing panics.
func TestNoise(t *testing.T) {
	seed := uint32(5)
	next := func(n uint32) int64 {
		seed = seed*1664525 + 1013904223
		return int64((seed >> 8) % n)
	}
	for range 3000 {
		m := made(t, "some input")
		m.Fuel = 300
		a, _, _, _ := counter(t, m)
		object.Heap(m.Heap, m.Mem, a)
		words := head.Words(m.Mem, m.List)
		from := m.Here()
		m.Comma(code.Colon)
		for range 60 {
			switch next(4) {
			case 0:
				m.Comma(from + 8*next(70) - 8)
			case 1:
				m.Comma(next(40) - 8)
			default:
				m.Comma(words[next(uint32(len(words)))].XT)
			}
		}
		for range 16 {
			choice := [...]int64{next(5) - 1, from + 8*next(64), a, m.Size() - next(64), 8 * next(1024), most - next(9), words[next(80)].XT}
			m.D.Push(choice[next(7)])
		}
		m.D.Drop(int(next(17)))
		m.Run(from)
		if m.Fuel < 0 || m.Fuel > 299 || len(m.Out) > MostOut {
			t.Fatal(m.Fuel)
		}
	}
}
