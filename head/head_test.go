package head

import (
	"math"
	"slices"
	"strings"
	"testing"

	"shed/api"
	"shed/mem"
	"shed/space"
)

func made(t *testing.T, size, from, to int64) *space.Space {
	t.Helper()
	m, e := mem.New(size)
	if e != api.OK {
		t.Fatal(e)
	}
	m.SetText(0, strings.Repeat("~", int(size)))
	s, e := space.New(m, from, to)
	if e != api.OK {
		t.Fatal(e)
	}
	return s
}

func list(t *testing.T, s *space.Space) int64 {
	t.Helper()
	at, e := List(s)
	if e != api.OK {
		t.Fatal(e)
	}
	return at
}

func create(t *testing.T, s *space.Space, list int64, name string, flags, code int64) Word {
	t.Helper()
	w, e := Create(s, list, name, flags, code)
	if e != api.OK {
		t.Fatalf("Create(%q): %d", name, e)
	}
	return w
}

func TestList(t *testing.T) {
	s := made(t, 32, 3, 24)
	if at := list(t, s); at != 8 || s.Here() != 16 {
		t.Error(at, s.Here())
	}
	if x, _ := s.Text(0, 24); x != "~~~\x00\x00\x00\x00\x00\x00\x00\x00\x00\x00\x00\x00\x00~~~~~~~~" {
		t.Errorf("%q", x)
	}
	list(t, s)
	if at, e := List(s); at != 0 || e != api.DictOver || s.Here() != 24 {
		t.Error(at, e)
	}
	s = made(t, 32, 3, 6)
	if at, e := List(s); at != 0 || e != api.DictOver || s.Here() != 6 {
		t.Error(at, e)
	}
	s = made(t, 32, 9, 20)
	if at, e := List(s); at != 0 || e != api.DictOver || s.Here() != 16 {
		t.Error(at, e, s.Here())
	}
	if at, e := List(nil); at != 0 || e != api.Argument {
		t.Error(at, e)
	}
}

func TestCreate(t *testing.T) {
	s := made(t, 160, 8, 160)
	l := list(t, s)
	s.Char('!')
	w := create(t, s, l, "DraW->", 5, -2)
	if w != (Word{At: 24, XT: 48, Flags: 5, Name: "draw->"}) || s.Here() != 56 {
		t.Error(w, s.Here())
	}
	want := "!\x00\x00\x00\x00\x00\x00\x00" + strings.Repeat("\x00", 8) + "\x06\x05\x00\x00\x00\x00\x00\x00" + "draw->\x00\x00" + "\xfe\xff\xff\xff\xff\xff\xff\xff~"
	if x, _ := s.Text(16, 41); x != want {
		t.Errorf("%q", x)
	}
	if n, _ := s.Cell(l); n != 24 {
		t.Error(n)
	}
	w = create(t, s, l, "12345678", 255, 11)
	if w != (Word{At: 56, XT: 80, Flags: 255, Name: "12345678"}) || s.Here() != 88 {
		t.Error(w, s.Here())
	}
	if n, _ := s.Cell(56); n != 24 {
		t.Error(n)
	}
	if n, _ := s.Cell(64); n != 8+255*256 {
		t.Error(n)
	}
	long := strings.Repeat("x", 31)
	w = create(t, s, l, long, 0, 0)
	if w != (Word{At: 88, XT: 136, Name: long}) || s.Here() != 144 {
		t.Error(w, s.Here())
	}
	if ws := Words(s.Mem, l); len(ws) != 3 || ws[0] != w || ws[2].Name != "draw->" {
		t.Error(ws)
	}
}

func TestCreateRefused(t *testing.T) {
	s := made(t, 64, 8, 64)
	l := list(t, s)
	for _, c := range []struct {
		s    *space.Space
		list int64
		name string
		want api.Code
	}{
		{s, l, "", api.NoName}, {s, l, strings.Repeat("x", 32), api.NoName}, {nil, l, "", api.NoName}, {nil, l, "a", api.Argument},
		{s, 64, "", api.NoName}, {s, 64, "a", api.Address}, {s, -8, "a", api.Address}, {s, 12, "a", api.Align}, {s, math.MaxInt64, "a", api.Address},
	} {
		if w, e := Create(c.s, c.list, c.name, 0, 1); w != (Word{}) || e != c.want || s.Here() != 16 {
			t.Errorf("Create(%d, %q): %v, %d", c.list, c.name, w, e)
		}
	}
	if x, _ := s.Text(16, 48); x != strings.Repeat("~", 48) {
		t.Errorf("%q", x)
	}
}

func TestCreateWithoutRoom(t *testing.T) {
	// A head of a name of 3 bytes needs 32 bytes from 24 on.
	for to := int64(17); to < 56; to++ {
		s := made(t, 64, 8, to)
		l := list(t, s)
		s.SetCell(l, 40)
		s.Char(1)
		w, e := Create(s, l, "abc", 0, 1)
		if w != (Word{}) || e != api.DictOver || s.Here() != 17 {
			t.Errorf("up to %d: %v, %d, %d", to, w, e, s.Here())
		}
		if n, _ := s.Cell(l); n != 40 {
			t.Errorf("up to %d: the list's cell is %d", to, n)
		}
	}
	// The cells that had room are written; the name is written as a whole, or not at all.
	s := made(t, 64, 0, 26)
	l := list(t, s)
	Create(s, l, "abc", 1, 1)
	if x, _ := s.Text(8, 20); x != strings.Repeat("\x00", 8)+"\x03\x01\x00\x00\x00\x00\x00\x00~~~~" {
		t.Errorf("%q", x)
	}
	s = made(t, 64, 0, 56)
	l = list(t, s)
	s.SetCell(l, 7)
	if w := create(t, s, l, "abc", 0, 1); w.At != 8 {
		t.Error(w)
	}
	if n, _ := s.Cell(8); n != 7 {
		t.Error("the link is what the list's cell contains, whatever that is", n)
	}
}

func names(l []Word) []string {
	var names []string
	for _, w := range l {
		names = append(names, w.Name)
	}
	return names
}

func TestWordsAndFind(t *testing.T) {
	s := made(t, 1024, 8, 1024)
	a, b := list(t, s), list(t, s)
	if len(Words(s.Mem, a)) != 0 {
		t.Error("an empty list")
	}
	one := create(t, s, a, "Dup", 0, 1)
	two := create(t, s, a, "dup", Immediate, 2)
	three := create(t, s, b, "DUP", 0, 3)
	other := create(t, s, b, "swap", 0, 4)
	if l := Words(s.Mem, a); !slices.Equal(l, []Word{two, one}) {
		t.Error(l)
	}
	if l := Words(s.Mem, b); !slices.Equal(l, []Word{other, three}) {
		t.Error(l)
	}
	is := func(want Word, found bool, name string, lists ...int64) {
		t.Helper()
		if w, ok := Find(s.Mem, name, lists...); w != want || ok != found {
			t.Errorf("Find(%q, %v): %v, %v", name, lists, w, ok)
		}
	}
	is(two, true, "dUP", a)
	is(two, true, "dup", a, b)
	is(three, true, "dup", b, a)
	is(other, true, "swap", a, b)
	is(Word{}, false, "swap", a)
	is(Word{}, false, "swap")
	is(Word{}, false, "swa", a, b)
	is(Word{}, false, "", a, b)
	is(other, true, "swap", -8, 3, 4096, b)
	for _, flags := range []int64{Hidden, Hidden + Immediate, 255} {
		if e := Mark(s.Mem, two, flags); e != api.OK {
			t.Error(e)
		}
		is(one, true, "dup", a)
	}
	Mark(s.Mem, one, Hidden)
	is(three, true, "dup", a, b)
	is(Word{}, false, "dup", a)
	if l := Words(s.Mem, a); len(l) != 2 || l[0].Flags != 255 || l[1].Flags != Hidden {
		t.Error(l)
	}
	Mark(s.Mem, two, 0)
	two.Flags = 0
	is(two, true, "dup", a)
}

func TestFindNeedsLowerCase(t *testing.T) {
	s := made(t, 256, 8, 256)
	l := list(t, s)
	w := create(t, s, l, "abc", 0, 1)
	s.SetText(w.At+16, "aBc")
	if _, ok := Find(s.Mem, "abc", l); ok {
		t.Error("a name that isn't in lower case was found")
	}
	if _, ok := Find(s.Mem, "aBc", l); ok {
		t.Error("a name that isn't in lower case was found")
	}
	if x := Words(s.Mem, l); len(x) != 1 || x[0].Name != "aBc" {
		t.Error(x)
	}
}

func TestWordsEnd(t *testing.T) {
	s := made(t, 256, 8, 200)
	l := list(t, s)
	w1 := create(t, s, l, "a", 0, 1) // 16
	w2 := create(t, s, l, "b", 0, 1) // 48
	w3 := create(t, s, l, "c", 0, 1) // 80
	for _, c := range []struct {
		at, n int64
		want  []string
	}{
		{w3.At, 0, []string{"c"}}, {w3.At, -16, []string{"c"}}, {w3.At, w3.At, []string{"c"}}, {w3.At, 1000, []string{"c"}},
		{w3.At, w3.At + 8, []string{"c"}}, {w3.At, w1.At, []string{"c", "a"}}, {w3.At, w2.At + 1, []string{"c"}},
		{w2.At, w3.At, []string{"c", "b"}}, {w2.At, math.MinInt64, []string{"c", "b"}}, {w3.At, math.MaxInt64, []string{"c"}},
		{w2.At + 8, -1, []string{"c"}}, {w2.At + 8, 32, []string{"c"}}, {w2.At + 8, 255, []string{"c"}},
		{w2.At + 8, math.MinInt64 + 1, []string{"c"}},
		{l, 0, nil}, {l, -8, nil}, {l, 256, nil}, {l, math.MaxInt64, nil}, {l, w2.At, []string{"b", "a"}}, {l, 17, nil}, {l, 248, nil},
	} {
		m := s.Mem.Clone()
		m.SetCell(c.at, c.n)
		if x := names(Words(m, l)); !slices.Equal(x, c.want) {
			t.Errorf("with %d at %d: %v; want %v", c.n, c.at, x, c.want)
		}
	}
	for _, list := range []int64{-8, 12, 256, math.MaxInt64} {
		if x := Words(s.Mem, list); len(x) != 0 {
			t.Error(list, x)
		}
	}
}

func TestAHeadAtTheEnd(t *testing.T) {
	m, _ := mem.New(64)
	m.SetCell(0, 40)
	m.SetCell(48, 256*1000) // an empty name: the code's cell is the last one
	if l := Words(m, 0); len(l) != 1 || l[0] != (Word{At: 40, XT: 56, Flags: 1000}) {
		t.Error(l)
	}
	if w, ok := Find(m, "", 0); !ok || w.At != 40 {
		t.Error(w, ok)
	}
	m.SetCell(48, 1)
	if l := Words(m, 0); len(l) != 0 {
		t.Error("there is no cell of the code", l)
	}
	m.SetCell(48, 9)
	if l := Words(m, 0); len(l) != 0 {
		t.Error("there is no name", l)
	}
	m.SetCell(0, 56)
	if l := Words(m, 0); len(l) != 0 {
		t.Error("there is no second cell", l)
	}
}

func TestMark(t *testing.T) {
	s := made(t, 64, 8, 64)
	l := list(t, s)
	w := create(t, s, l, "abc", 0, 1)
	for _, flags := range []int64{255, 1, 0, 3} {
		if e := Mark(s.Mem, Word{At: w.At}, flags); e != api.OK {
			t.Error(e)
		}
		if n, _ := s.Cell(w.At + 8); n != 3+256*flags {
			t.Error(n)
		}
	}
	for _, c := range []struct{ at, flags int64 }{
		{w.At, -1}, {w.At, 256}, {w.At, math.MaxInt64}, {w.At, math.MinInt64},
		{-8, 1}, {w.At + 4, 1}, {56, 1}, {64, 1}, {math.MaxInt64 - 7, 1}, {math.MinInt64, 1},
	} {
		if e := Mark(s.Mem, Word{At: c.at}, c.flags); e != api.Argument {
			t.Errorf("Mark at %d of %d: %d", c.at, c.flags, e)
		}
	}
	if n, _ := s.Cell(w.At + 8); n != 3+256*3 {
		t.Error(n)
	}
	s.SetCell(w.At+8, 256*77777+2)
	if e := Mark(s.Mem, w, 1); e != api.OK {
		t.Error(e)
	}
	if n, _ := s.Cell(w.At + 8); n != 258 {
		t.Error(n)
	}
}

func TestNoHead(t *testing.T) {
	m, _ := mem.New(64)
	for _, at := range []int64{-8, -16, 4, 48, 64} {
		if e := Mark(m, Word{At: at}, 1); e != api.Argument {
			t.Errorf("Mark at %d: %d", at, e)
		}
	}
	if e := Mark(m, Word{}, 1); e != api.OK { // bytes 0 are a head of a word without a name
		t.Error(e)
	}
	m.SetCell(16, 32)
	m.SetCell(40, -256)
	if l := Words(m, 16); len(l) != 0 {
		t.Error("a second cell below 0", l)
	}
	m.SetCell(40, 256)
	if l := Words(m, 16); len(l) != 1 {
		t.Error(l)
	}
}

func TestNil(t *testing.T) {
	if len(Words(nil, 0)) != 0 || Mark(nil, Word{}, 0) != api.Argument {
		t.Error("Words, Mark")
	}
	if w, ok := Find(nil, "a", 0, 8); w != (Word{}) || ok {
		t.Error(w, ok)
	}
}
