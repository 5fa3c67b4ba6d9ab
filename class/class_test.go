package class

import (
	"fmt"
	"math"
	"slices"
	"strings"
	"testing"

	"shed/api"
	"shed/mem"
	"shed/space"
	"shed/table"
)

func room(t *testing.T, size, from, to int64) *space.Space {
	t.Helper()
	m, e := mem.New(size)
	if e != api.OK {
		t.Fatal(e)
	}
	m.SetText(0, strings.Repeat("~", int(size)))
	s, e := space.New(m, from, to)
	if e != api.OK {
		t.Fatal(e)
	}
	return s
}

// world is a space with a root at 8.
func world(t *testing.T, size int64) *space.Space {
	t.Helper()
	s := room(t, size, 8, size)
	if root, e := Root(s); root != 8 || e != api.OK {
		t.Fatal(root, e)
	}
	return s
}

func create(t *testing.T, s *space.Space, parent, slots int64) int64 {
	t.Helper()
	at, e := New(s, 8, parent, slots)
	if e != api.OK {
		t.Fatalf("New(%d, %d): %d", parent, slots, e)
	}
	return at
}

func TestRoot(t *testing.T) {
	s := room(t, 32, 3, 32)
	if at, e := Root(s); at != 8 || e != api.OK || s.Here() != 16 {
		t.Error(at, e, s.Here())
	}
	if x, _ := s.Text(0, 20); x != "~~~"+strings.Repeat("\x00", 13)+"~~~~" {
		t.Errorf("%q", x)
	}
	if len(All(s.Mem, 8)) != 0 || Is(s.Mem, 8, 8) || Is(s.Mem, 8, 0) {
		t.Error("a root without classes")
	}
	for _, to := range []int64{6, 15} {
		s = room(t, 32, 3, to)
		if at, e := Root(s); at != 0 || e != api.DictOver {
			t.Error(at, e)
		}
	}
	if at, e := Root(nil); at != 0 || e != api.Argument {
		t.Error(at, e)
	}
}

func TestNew(t *testing.T) {
	s := world(t, 1024)
	s.Char(1)
	a := create(t, s, 0, 2)
	if a != 24+64 || s.Here() != a+40 {
		t.Error(a, s.Here())
	}
	if c, ok := Read(s.Mem, a); c != (Class{At: a, Size: 8, Table: 24}) || !ok {
		t.Error(c, ok)
	}
	if n, _ := s.Cell(a); n != 0x5348454443 {
		t.Error(n)
	}
	if n, _ := s.Cell(8); n != a {
		t.Error(n)
	}
	if table.Slots(s.Mem, 24) != 2 {
		t.Error("its table")
	}
	Grow(s.Mem, a, 16)
	Set(s.Mem, 8, a, 5, 77)
	s.Char(1)
	b := create(t, s, a, 1000) // the number of slots is that of the parent
	c, ok := Read(s.Mem, b)
	if c != (Class{At: b, Parent: a, Size: 24, Table: a + 48, Prev: a}) || !ok {
		t.Error(c, ok)
	}
	x, _ := s.Text(24, 64)
	if y, _ := s.Text(c.Table, 64); x != y {
		t.Errorf("%q, not %q", y, x)
	}
	d := create(t, s, 0, 1)
	var l []int64
	for _, c := range All(s.Mem, 8) {
		l = append(l, c.At)
	}
	if !slices.Equal(l, []int64{a, b, d}) {
		t.Error(l)
	}
	for at, want := range map[int64]bool{a: true, b: true, d: true, 0: false, 8: false, a + 8: false, -8: false, math.MaxInt64: false} {
		if Is(s.Mem, 8, at) != want {
			t.Error("Is", at)
		}
	}
}

func TestNewRefused(t *testing.T) {
	s := world(t, 1024)
	a := create(t, s, 0, 2)
	s.Char(1)
	here := s.Here()
	for _, c := range []struct {
		s                   *space.Space
		root, parent, slots int64
		want                api.Code
	}{
		{nil, 8, 0, 2, api.Argument}, {nil, -1, 0, 0, api.Argument}, {s, -8, 0, 0, api.Address}, {s, 12, a, 2, api.Align}, {s, 1024, 9, 2, api.Address},
		{s, 8, 0, 0, api.Argument}, {s, 8, 0, 1025, api.Argument}, {s, 8, 0, -1, api.Argument}, {s, 8, 0, 1000, api.DictOver},
		{s, 8, 8, 2, api.NoClass}, {s, 8, -1, 2, api.NoClass}, {s, 8, a + 8, 0, api.NoClass}, {s, 8, math.MaxInt64, 2, api.NoClass},
	} {
		at, e := New(c.s, c.root, c.parent, c.slots)
		if at != 0 || e != c.want || s.Here() != here {
			t.Errorf("New(%d, %d, %d): %d, %d, %d", c.root, c.parent, c.slots, at, e, s.Here())
		}
		if n, _ := s.Cell(8); n != a {
			t.Error("the root's cell", n)
		}
	}
	x, _ := Read(s.Mem, a)
	s.SetCell(x.Table, 0)
	if at, e := New(s, 8, a, 2); at != 0 || e != api.Argument {
		t.Error("a parent without a table", at, e)
	}
}

func TestNewWithoutRoom(t *testing.T) {
	for to := int64(25); to < 24+40+40; to++ {
		s := room(t, 256, 8, to)
		Root(s)
		s.Char(1)
		if at, e := New(s, 8, 0, 1); at != 0 || e != api.DictOver || s.Here() != 17 {
			t.Errorf("up to %d: %d, %d, %d", to, at, e, s.Here())
		}
		if n, _ := s.Cell(8); n != 0 {
			t.Error(n)
		}
	}
	s := room(t, 256, 8, 24+40+40)
	Root(s)
	s.Char(1)
	a := create(t, s, 0, 1)
	if at, e := New(s, 8, a, 1); at != 0 || e != api.DictOver || s.Here() != 104 {
		t.Error(at, e, s.Here())
	}
}

func TestRead(t *testing.T) {
	s := room(t, 128, 0, 128)
	for i := range int64(5) {
		s.SetCell(88+8*i, 100+i)
	}
	s.SetCell(88, Magic)
	if c, ok := Read(s.Mem, 88); c != (Class{88, 101, 102, 103, 104}) || !ok {
		t.Error(c, ok)
	}
	s.SetCell(96, Magic)
	for _, at := range []int64{96, 80, 84, -8, 128, math.MaxInt64 - 7, math.MinInt64} {
		if _, ok := Read(s.Mem, at); ok {
			t.Error("a class at", at)
		}
	}
	if _, ok := Read(nil, 0); ok {
		t.Error("a class of a nil memory")
	}
}

func TestAllEnds(t *testing.T) {
	s := world(t, 1024)
	a, b, c := create(t, s, 0, 1), create(t, s, 0, 1), create(t, s, 0, 1)
	for _, x := range []struct {
		at, n int64
		want  []int64
	}{
		{8, 0, nil}, {8, -8, nil}, {8, 1024, nil}, {8, math.MaxInt64, nil}, {8, 16, nil}, {8, b, []int64{a, b}}, {8, b + 1, nil},
		{c + 32, 0, []int64{c}}, {c + 32, c, []int64{c}}, {c + 32, a, []int64{a, c}}, {c + 32, -1, []int64{c}}, {c + 32, 2000, []int64{c}},
		{b + 32, c, []int64{b, c}}, {b, 0, []int64{c}}, {b + 8, 99, []int64{a, b, c}}, {a + 32, 16, []int64{a, b, c}},
	} {
		m := s.Mem.Clone()
		m.SetCell(x.at, x.n)
		var l []int64
		for _, c := range All(m, 8) {
			l = append(l, c.At)
		}
		if !slices.Equal(l, x.want) {
			t.Errorf("%d at %d: %v; want %v", x.n, x.at, l, x.want)
		}
		for _, at := range []int64{a, b, c} {
			if Is(m, 8, at) != slices.Contains(x.want, at) {
				t.Errorf("%d at %d: Is(%d)", x.n, x.at, at)
			}
		}
	}
	for _, root := range []int64{-8, 4, 1024} {
		if len(All(s.Mem, root)) != 0 || Is(s.Mem, root, a) {
			t.Error("root", root)
		}
	}
	if len(All(nil, 0)) != 0 || Is(nil, 0, 0) {
		t.Error("a nil memory")
	}
}

// No class of a root is at 0, though there may be a class.
func TestAClassAtZero(t *testing.T) {
	m, _ := mem.New(128)
	m.SetCell(0, Magic)
	m.SetCell(64, Magic)
	m.SetCell(48, 64)
	if l := All(m, 48); len(l) != 1 || l[0].At != 64 {
		t.Error(l)
	}
	if Is(m, 48, 0) {
		t.Error("Is(0)")
	}
	if _, ok := Read(m, 0); !ok {
		t.Error("Read(0)")
	}
}

func TestGrow(t *testing.T) {
	s := world(t, 256)
	a := create(t, s, 0, 1)
	for _, c := range []struct{ n, was, is int64 }{{8, 8, 16}, {0, 16, 16}, {1, 16, 24}, {7, 24, 32}, {9, 32, 48}, {api.MaxMem, 48, api.MaxMem + 48}} {
		if was, e := Grow(s.Mem, a, c.n); was != c.was || e != api.OK {
			t.Errorf("Grow(%d): %d, %d", c.n, was, e)
		}
		if x, _ := Read(s.Mem, a); x.Size != c.is {
			t.Errorf("Grow(%d): it is %d then", c.n, x.Size)
		}
	}
	for _, c := range []struct {
		at, size, n int64
		want        api.Code
	}{
		{a, api.MaxMem, 0, api.OK}, {a, 0, 0, api.OK}, {a, api.MaxMem + 1, 0, api.Argument}, {a, -1, 0, api.Argument}, {a, math.MinInt64, 8, api.Argument},
		{a, 8, -1, api.Argument}, {a, 8, api.MaxMem + 1, api.Argument}, {a, 8, math.MaxInt64, api.Argument},
		{a + 8, 8, -1, api.NoClass}, {0, 8, 8, api.NoClass}, {-8, 8, 8, api.NoClass},
	} {
		s.SetCell(a+16, c.size)
		was, e := Grow(s.Mem, c.at, c.n)
		if e != c.want || e != api.OK && was != 0 {
			t.Errorf("Grow(%d, %d) of a size of %d: %d, %d", c.at, c.n, c.size, was, e)
		}
		if x, _ := Read(s.Mem, a); e != api.OK && x.Size != c.size {
			t.Errorf("a refused Grow wrote %d", x.Size)
		}
	}
	s.SetCell(a+16, 13)
	if was, e := Grow(s.Mem, a, 2); was != 13 || e != api.OK {
		t.Error(was, e)
	}
	if x, _ := Read(s.Mem, a); x.Size != 16 {
		t.Error(x.Size)
	}
	if _, e := Grow(nil, a, 8); e != api.NoClass {
		t.Error(e)
	}
}

func is(t *testing.T, s *space.Space, at, sel, xt, class int64) {
	t.Helper()
	x, n, ok := Lookup(s.Mem, at, sel)
	if want := (table.Entry{Sel: sel, XT: xt, Class: class}); class != 0 && (x != want || !ok || n < 1) {
		t.Errorf("Lookup(%d, %d): %v, %d, %v", at, sel, x, n, ok)
	}
	if class == 0 && (x != (table.Entry{}) || ok) {
		t.Errorf("Lookup(%d, %d): %v, %v", at, sel, x, ok)
	}
}

func set(t *testing.T, s *space.Space, at, sel, xt int64) {
	t.Helper()
	if e := Set(s.Mem, 8, at, sel, xt); e != api.OK {
		t.Errorf("Set(%d, %d): %d", at, sel, e)
	}
}

func TestSetAndLookup(t *testing.T) {
	s := world(t, 4096)
	a := create(t, s, 0, 4)
	set(t, s, a, 1, 11)
	b := create(t, s, a, 4)
	c := create(t, s, b, 4)
	d := create(t, s, a, 4)
	other := create(t, s, 0, 4)
	for _, at := range []int64{a, b, c, d} {
		is(t, s, at, 1, 11, a)
	}
	is(t, s, other, 1, 0, 0)
	set(t, s, b, 1, 22) // its heirs get it, others don't
	is(t, s, a, 1, 11, a)
	is(t, s, b, 1, 22, b)
	is(t, s, c, 1, 22, b)
	is(t, s, d, 1, 11, a)
	set(t, s, a, 1, 33) // b has its own, and so has what is below it
	is(t, s, a, 1, 33, a)
	is(t, s, b, 1, 22, b)
	is(t, s, c, 1, 22, b)
	is(t, s, d, 1, 33, a)
	set(t, s, a, 2, 44) // a new one
	for _, at := range []int64{a, b, c, d} {
		is(t, s, at, 2, 44, a)
	}
	set(t, s, c, 2, 55)
	set(t, s, b, 2, 66)
	set(t, s, b, 2, 67)
	is(t, s, b, 2, 67, b)
	is(t, s, c, 2, 55, c)
	is(t, s, d, 2, 44, a)
	is(t, s, a, 3, 0, 0)
	is(t, s, a, 0, 0, 0)
	if _, n, ok := Lookup(s.Mem, a, 3); n == 0 || ok {
		t.Error(n, ok)
	}
	for _, at := range []int64{0, a + 8, -8, 4096} {
		if x, n, ok := Lookup(s.Mem, at, 1); x != (table.Entry{}) || n != 0 || ok {
			t.Error(x, n, ok)
		}
	}
}

func TestSetRefused(t *testing.T) {
	s := world(t, 4096)
	a := create(t, s, 0, 2)
	b := create(t, s, a, 2)
	for _, c := range []struct {
		at, sel int64
		want    api.Code
	}{
		{0, 1, api.NoClass}, {b + 8, 1, api.NoClass}, {8, 0, api.NoClass}, {-8, 1, api.NoClass}, {a, 0, api.Argument}, {a, -1, api.Argument}, {a, math.MinInt64, api.Argument},
	} {
		if e := Set(s.Mem, 8, c.at, c.sel, 1); e != c.want {
			t.Errorf("Set(%d, %d): %d", c.at, c.sel, e)
		}
	}
	set(t, s, b, 1, 1)
	set(t, s, b, 2, 2)
	set(t, s, a, 1, 3) // b has its own
	set(t, s, a, 2, 4)
	if e := Set(s.Mem, 8, b, 3, 9); e != api.TableFull {
		t.Error(e)
	}
	s = world(t, 4096)
	a = create(t, s, 0, 2)
	b = create(t, s, a, 2)
	set(t, s, b, 1, 1)
	set(t, s, b, 2, 2)
	before, _ := s.Text(0, 4096)
	if e := Set(s.Mem, 8, a, 3, 9); e != api.TableFull { // a has room, its heir has none
		t.Error(e)
	}
	if after, _ := s.Text(0, 4096); after != before {
		t.Error("a refused Set wrote")
	}
	x, _ := Read(s.Mem, b)
	s.SetCell(x.Table, 0)
	if e := Set(s.Mem, 8, a, 1, 9); e != api.TableFull { // without a table there is no room
		t.Error(e)
	}
	if e := Set(nil, 8, a, 1, 9); e != api.NoClass {
		t.Error(e)
	}
}

// A class is no heir of one that was created after it, whatever its parent says.
func TestHeirsComeAfter(t *testing.T) {
	s := world(t, 4096)
	a := create(t, s, 0, 2)
	b := create(t, s, 0, 2)
	s.SetCell(a+8, b)
	set(t, s, b, 1, 5)
	is(t, s, b, 1, 5, b)
	is(t, s, a, 1, 0, 0)
}

func TestBelow(t *testing.T) {
	s := world(t, 4096)
	a := create(t, s, 0, 2)
	b := create(t, s, a, 2)
	c := create(t, s, b, 2)
	d := create(t, s, 0, 2)
	for _, x := range []struct {
		at, other int64
		want      bool
	}{
		{a, a, true}, {b, a, true}, {c, a, true}, {c, b, true}, {c, c, true}, {a, b, false}, {a, c, false}, {d, a, false}, {c, d, false},
		{a, 0, false}, {0, 0, false}, {8, 8, false}, {0, a, false}, {c, 8, false}, {-8, -8, false},
	} {
		if Below(s.Mem, 8, x.at, x.other) != x.want {
			t.Errorf("Below(%d, %d)", x.at, x.other)
		}
	}
	s.SetCell(a+8, c) // round
	if !Below(s.Mem, 8, a, b) || !Below(s.Mem, 8, b, c) || Below(s.Mem, 8, a, d) || Below(s.Mem, 8, a, 0) {
		t.Error("parents that go round")
	}
	s.SetCell(b+8, 16) // all of them are of the root
	if Below(s.Mem, 8, c, a) || Below(s.Mem, 8, c, 16) || !Below(s.Mem, 8, c, b) {
		t.Error("a parent that is none")
	}
	if Below(nil, 0, 0, 0) {
		t.Error("a nil memory")
	}
}

// The walk: what is found is what was set last, in the nearest class above.
func TestTheWalk(t *testing.T) {
	s := world(t, 1<<16)
	type key struct{ class, sel int64 }
	var classes []int64
	parents := map[int64]int64{}
	own := map[key]int64{}
	seed := uint32(3)
	next := func(n int) int {
		seed = seed*1664525 + 1013904223
		return int(seed>>10) % n
	}
	for i := range int64(400) {
		if len(classes) == 0 || len(classes) < 12 && next(8) == 0 {
			parent := int64(0)
			if len(classes) > 0 && next(4) > 0 {
				parent = classes[next(len(classes))]
			}
			c := create(t, s, parent, 16)
			parents[c] = parent
			classes = append(classes, c)
		}
		k := key{classes[next(len(classes))], int64(next(6)) + 1}
		set(t, s, k.class, k.sel, i)
		own[k] = i
		for _, c := range classes {
			for sel := int64(1); sel <= 7; sel++ {
				want := "nothing"
				for at := c; at != 0; at = parents[at] {
					if xt, ok := own[key{at, sel}]; ok {
						want = fmt.Sprint(table.Entry{Sel: sel, XT: xt, Class: at})
						break
					}
				}
				got := "nothing"
				if x, _, ok := Lookup(s.Mem, c, sel); ok {
					got = fmt.Sprint(x)
				}
				if got != want {
					t.Fatalf("%d: class %d, selector %d: %s, not %s", i, c, sel, got, want)
				}
			}
		}
	}
}
