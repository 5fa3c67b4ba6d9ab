package walk

import (
	"fmt"
	"math"
	"slices"
	"strings"
	"testing"

	"shed/api"
	"shed/class"
	"shed/heap"
	"shed/mem"
	"shed/object"
	"shed/oop"
	"shed/space"
	"shed/table"
	"shed/vm"
)

// world is a memory with a root at 8, and a heap from 3072 on.
func world(t *testing.T) (*space.Space, *heap.Heap) {
	t.Helper()
	m, e := mem.New(4096)
	if e != api.OK {
		t.Fatal(e)
	}
	s, _ := space.New(m, 8, 3072)
	class.Root(s)
	h, e := heap.New(m, 3072, 4096)
	if e != api.OK {
		t.Fatal(e)
	}
	return s, h
}

func create(t *testing.T, s *space.Space, parent int64) class.Class {
	t.Helper()
	at, e := class.New(s, 8, parent, 4)
	if e != api.OK {
		t.Fatal(e)
	}
	c, _ := class.Read(s.Mem, at)
	return c
}

// family is two classes, the second one below the first one, and a third one.
func family(t *testing.T) (s *space.Space, a, b, c class.Class) {
	t.Helper()
	s, _ = world(t)
	a = create(t, s, 0)
	class.Grow(s.Mem, a.At, 8)
	class.Set(s.Mem, 8, a.At, 1, 100)
	class.Set(s.Mem, 8, a.At, 2, 200)
	b = create(t, s, a.At)
	class.Set(s.Mem, 8, b.At, 2, 300)
	c = create(t, s, 0)
	return s, a, b, c
}

func TestSound(t *testing.T) {
	s, _ := world(t)
	if at := Classes(s.Mem, 8); at != 0 {
		t.Error(at)
	}
	s, a, b, _ := family(t)
	if at := Classes(s.Mem, 8); at != 0 {
		t.Error(at)
	}
	class.Set(s.Mem, 8, a.At, 3, 400)
	class.Set(s.Mem, 8, b.At, 4, 500)
	class.Grow(s.Mem, b.At, 24)
	if at := Classes(s.Mem, 8); at != 0 {
		t.Error(at)
	}
	if Classes(nil, 0) != 0 || Classes(s.Mem, -8) != 0 || Classes(s.Mem, 4096) != 0 {
		t.Error("without classes")
	}
}

// slotOf is the address of the slot that has a selector.
func slotOf(t *testing.T, m *mem.Mem, at, sel int64) int64 {
	t.Helper()
	for i := range table.Slots(m, at) {
		if n, _ := m.Cell(at + 16 + 24*i); n == sel {
			return at + 16 + 24*i
		}
	}
	t.Fatal("no slot")
	return 0
}

func TestUnsound(t *testing.T) {
	s, a, b, c := family(t)
	sel1 := slotOf(t, s.Mem, b.Table, 1)
	sel2 := slotOf(t, s.Mem, b.Table, 2)
	for _, x := range []struct {
		what        string
		at, n, want int64
	}{
		{"nothing", 0, 0, 0},
		{"a parent that comes later", a.At + 8, b.At, a.At}, {"itself as a parent", b.At + 8, b.At, b.At}, {"a parent that is none", c.At + 8, 16, c.At},
		{"a parent below 0", c.At + 8, -8, c.At}, {"another parent", c.At + 8, b.At, c.At}, {"no parent", b.At + 8, 0, b.At},
		{"a size of 0", c.At + 16, 0, c.At}, {"a size of 12", c.At + 16, 12, c.At}, {"a size below 0", c.At + 16, -8, c.At}, {"a size of 16", c.At + 16, 16, 0},
		{"a size below the parent's", b.At + 16, 8, b.At}, {"a size that is the parent's", b.At + 16, 16, 0}, {"a size above a child's", a.At + 16, 24, b.At},
		{"a great size", c.At + 16, math.MaxInt64 - 7, 0},
		{"no table", c.At + 24, 8, c.At}, {"no table at all", c.At + 24, -8, c.At}, {"another one's table", c.At + 24, a.Table, c.At}, {"the parent's table", b.At + 24, a.Table, 0},
		{"no slots", c.Table, 0, c.At}, {"fewer slots", a.Table, 1, b.At},
		{"another class in an entry", sel2 + 16, c.At, b.At}, {"no class in an entry", sel2 + 16, 0, b.At}, {"the parent's class, but its own XT", sel2 + 16, a.At, b.At},
		{"its own class for the parent's XT", sel1 + 16, b.At, 0}, {"another XT than the parent's", sel1 + 8, 101, b.At}, {"another own XT", sel2 + 8, 301, 0},
		{"a selector that isn't found", sel2, 77, b.At}, {"a selector below 1", sel2, -2, b.At}, {"an empty slot", sel1, 0, b.At},
		{"a parent's XT that changed", slotOf(t, s.Mem, a.Table, 1) + 8, 7, b.At}, {"a parent's XT that doesn't matter", slotOf(t, s.Mem, a.Table, 2) + 8, 7, 0},
	} {
		m := s.Mem.Clone()
		m.SetCell(x.at, x.n)
		if at := Classes(m, 8); at != x.want {
			t.Errorf("%s: %d; want %d (of %d, %d, %d)", x.what, at, x.want, a.At, b.At, c.At)
		}
	}
	// The first one in the order in which they were created.
	m := s.Mem.Clone()
	m.SetCell(a.At+16, 4)
	m.SetCell(c.At+16, 4)
	if at := Classes(m, 8); at != a.At {
		t.Error(at)
	}
	// The parent has a selector that the class doesn't have.
	m = s.Mem.Clone()
	table.Put(m, a.Table, table.Entry{Sel: 3, XT: 1, Class: a.At})
	if at := Classes(m, 8); at != b.At {
		t.Error(at)
	}
	table.Put(m, b.Table, table.Entry{Sel: 3, XT: 1, Class: a.At})
	if at := Classes(m, 8); at != 0 {
		t.Error(at)
	}
	// Two slots with a selector: Get returns the first one alone.
	m = s.Mem.Clone()
	for i := range int64(4) {
		m.SetCell(c.Table+16+24*i, 9)
		m.SetCell(c.Table+16+24*i+16, c.At)
	}
	if at := Classes(m, 8); at != 0 {
		t.Error("equal entries", at)
	}
	m.SetCell(c.Table+16+8, 5)
	if at := Classes(m, 8); at != c.At {
		t.Error("entries that differ", at)
	}
}

// A table at 0 is none that a class without a parent inherits from.
func TestNoParent(t *testing.T) {
	m, _ := mem.New(1024)
	s, _ := space.New(m, 512, 1024)
	root, _ := class.Root(s)
	at, _ := class.New(s, root, 0, 1)
	c, _ := class.Read(m, at)
	m.SetCell(0, 1)
	table.Put(m, 0, table.Entry{Sel: 1, XT: 2, Class: 3})
	if x := Classes(m, root); x != 0 {
		t.Error(x)
	}
	table.Put(m, c.Table, table.Entry{Sel: 1, XT: 2, Class: 3})
	if x := Classes(m, root); x != at {
		t.Error(x)
	}
}

func TestObjects(t *testing.T) {
	s, h := world(t)
	a := create(t, s, 0)
	b := create(t, s, a.At)
	class.Grow(s.Mem, b.At, 16)
	if l, e := Objects(h, s.Mem, 8, 3072); len(l) != 0 || e != api.OK {
		t.Error(l, e)
	}
	var l []int64
	for _, c := range []int64{a.At, b.At, a.At, b.At} {
		at, e := object.Heap(h, s.Mem, c)
		if e != api.OK {
			t.Fatal(e)
		}
		l = append(l, at)
	}
	plain, _ := h.Alloc(24)
	is := func(what string, want ...int64) {
		t.Helper()
		if l, e := Objects(h, s.Mem, 8, 3072); !slices.Equal(l, want) || e != api.OK {
			t.Errorf("%s: %v, %d; want %v", what, l, e, want)
		}
	}
	is("four", l...)
	h.Free(l[1])
	is("without one that was freed", l[0], l[2], l[3])
	s.SetCell(plain, b.At)
	is("with one that just fits", l[0], l[2], l[3], plain)
	s.SetCell(b.At+16, 32)
	is("without those that are too small", l[0], l[2])
	s.SetCell(a.At+16, -5)
	s.SetCell(l[2], 8)
	is("without one that has no class", l[0])
	s.SetCell(8, 0)
	is("without classes")
	s.SetCell(3072, 3)
	if l, e := Objects(h, s.Mem, 8, 3072); len(l) != 0 || e != api.Broken {
		t.Error(l, e)
	}
	if l, e := Objects(nil, s.Mem, 8, 3072); len(l) != 0 || e != api.Argument {
		t.Error(l, e)
	}
}

// Whatever is created, and redefined, and whatever error ends it: all classes are sound.
func TestAllStaySound(t *testing.T) {
	seed := uint32(21)
	next := func(n int) int {
		seed = seed*1664525 + 1013904223
		return int(seed>>10) % n
	}
	parts := []string{
		"class c%d - ", "class c%d c%d ", "class c%d c%d ", "ivar x", "method m%d", "method m%d", "endm", "endm", "endclass", "endclass", "redefine c%d m%d", "redefine c%d m%d",
		"implements i", "1 2", ": f", ";", "object c%d o%d", "if", "then", "super m%d", "c%d new -> m%d", ":: c%d m%d", "drop", "\n", "\n", "nothing", "interface i m%d m%d endinterface",
	}
	for range 300 {
		f, e := oop.New(vm.Config{Dict: 16384, Data: 16, Return: 32, Heap: 512, Slots: int64(next(5)) + 1}, "")
		if e != api.OK {
			t.Fatal(e)
		}
		f.Fuel = 1 << 16
		f.Text("class c0 - method m1 endm endclass class c1 c0 endclass")
		var all []string
		for range 60 {
			part := parts[next(len(parts))]
			for strings.Contains(part, "%d") {
				part = strings.Replace(part, "%d", fmt.Sprint(next(4)), 1)
			}
			all = append(all, part)
			f.Text(part)
			if at := Classes(f.Mem, f.Root); at != 0 {
				t.Fatalf("the class at %d: %v", at, all)
			}
		}
		if _, e := Objects(f.Heap, f.Mem, f.Root, f.Size()-512); e != api.OK {
			t.Fatal(e)
		}
	}
}
