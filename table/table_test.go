package table

import (
	"math"
	"slices"
	"strings"
	"testing"

	"shed/api"
	"shed/mem"
	"shed/space"
)

func room(t *testing.T, size, from, to int64) *space.Space {
	t.Helper()
	m, e := mem.New(size)
	if e != api.OK {
		t.Fatal(e)
	}
	m.SetText(0, strings.Repeat("~", int(size)))
	s, e := space.New(m, from, to)
	if e != api.OK {
		t.Fatal(e)
	}
	return s
}

func made(t *testing.T, slots int64) (*mem.Mem, int64) {
	t.Helper()
	s := room(t, 1<<16, 8, 1<<16)
	at, e := New(s, slots)
	if e != api.OK || at != 8 {
		t.Fatalf("New(%d): %d, %d", slots, at, e)
	}
	return s.Mem, at
}

// home is the home slot of a selector, computed another way.
func home(sel uint64, slots uint64) int64 {
	return int64(sel % (1 << 32) * 2654435761 % (1 << 32) % slots)
}

func TestNew(t *testing.T) {
	s := room(t, 256, 8, 256)
	s.Char(1)
	at, e := New(s, 2)
	if at != 16 || e != api.OK || s.Here() != 16+16+48 {
		t.Error(at, e, s.Here())
	}
	if x, _ := s.Text(8, 80); x != "\x01"+strings.Repeat("\x00", 7)+"\x02"+strings.Repeat("\x00", 63)+"~~~~~~~~" {
		t.Errorf("%q", x)
	}
	if Slots(s.Mem, at) != 2 || len(All(s.Mem, at)) != 0 {
		t.Error("an empty table")
	}
	for _, slots := range []int64{0, -1, 1025, math.MaxInt64, math.MinInt64} {
		if at, e := New(s, slots); at != 0 || e != api.Argument || s.Here() != 80 {
			t.Errorf("New(%d): %d, %d", slots, at, e)
		}
	}
	for _, slots := range []int64{0, 1} {
		if at, e := New(nil, slots); at != 0 || e != api.Argument {
			t.Error(at, e)
		}
	}
	if m, at := made(t, 1024); Slots(m, at) != 1024 {
		t.Error("1024 slots")
	}
}

func TestNewWithoutRoom(t *testing.T) {
	s := room(t, 64, 3, 33)
	if at, e := New(s, 1); at != 0 || e != api.DictOver || s.Here() != 3 {
		t.Error(at, e, s.Here())
	}
	if x, _ := s.Text(0, 40); x != "~~~"+strings.Repeat("\x00", 5)+"\x01"+strings.Repeat("\x00", 23)+"~~~~~~~~" {
		t.Errorf("the cells that had room stay written: %q", x)
	}
	s = room(t, 64, 3, 6)
	if at, e := New(s, 1); at != 0 || e != api.DictOver || s.Here() != 3 {
		t.Error(at, e, s.Here())
	}
	s = room(t, 48, 8, 48)
	if at, e := New(s, 1); at != 8 || e != api.OK || s.Here() != 48 {
		t.Error(at, e)
	}
}

func TestPutAndGet(t *testing.T) {
	m, at := made(t, 8)
	for sel := int64(1); sel <= 5; sel++ {
		if e := Put(m, at, Entry{sel, 100 + sel, 7}); e != api.OK {
			t.Error(e)
		}
		if n, _ := m.Cell(at + 8); n != sel {
			t.Errorf("%d are filled", n)
		}
	}
	for sel := int64(1); sel <= 5; sel++ {
		x, n, ok := Get(m, at, sel)
		if x != (Entry{sel, 100 + sel, 7}) || n < 1 || n > 8 || !ok {
			t.Errorf("Get(%d): %v, %d, %v", sel, x, n, ok)
		}
	}
	if x, n, ok := Get(m, at, 6); x != (Entry{}) || n < 1 || ok {
		t.Error(x, n, ok)
	}
	if e := Put(m, at, Entry{3, -1, -2}); e != api.OK {
		t.Error(e)
	}
	if x, _, ok := Get(m, at, 3); x != (Entry{3, -1, -2}) || !ok {
		t.Error(x, ok)
	}
	if n, _ := m.Cell(at + 8); n != 5 {
		t.Error("a selector that was there is counted again", n)
	}
	if l := All(m, at); len(l) != 5 {
		t.Error(l)
	}
}

func TestSearch(t *testing.T) {
	for _, slots := range []int64{1, 2, 3, 7, 16, 1000, 1024} {
		for _, sel := range []int64{1, 2, 3, 1000, 1 << 31, 1<<32 + 5, math.MaxInt64} {
			m, at := made(t, slots)
			h := home(uint64(sel), uint64(slots))
			if e := Put(m, at, Entry{sel, 2, 3}); e != api.OK {
				t.Fatal(e)
			}
			var cells [3]int64
			for i := range cells {
				cells[i], _ = m.Cell(at + 16 + 24*h + 8*int64(i))
			}
			if cells != [3]int64{sel, 2, 3} {
				t.Errorf("%d of %d slots: %v at home", sel, slots, cells)
			}
			if _, n, ok := Get(m, at, sel); n != 1 || !ok {
				t.Errorf("%d of %d slots: %d inspected, %v", sel, slots, n, ok)
			}
		}
	}
}

func TestSearchGoesRound(t *testing.T) {
	m, at := made(t, 4)
	// Three selectors with the last slot as their home.
	var l []int64
	for sel := int64(1); len(l) < 4; sel++ {
		if home(uint64(sel), 4) == 3 {
			l = append(l, sel)
		}
	}
	for _, sel := range l[:3] {
		Put(m, at, Entry{sel, sel, sel})
	}
	for i, sel := range l[:3] {
		if x, n, ok := Get(m, at, sel); x != (Entry{sel, sel, sel}) || n != i+1 || !ok {
			t.Errorf("%d: %v, %d, %v", sel, x, n, ok)
		}
	}
	if x, n, ok := Get(m, at, l[3]); x != (Entry{}) || n != 4 || ok {
		t.Error(x, n, ok)
	}
	if a := All(m, at); !slices.Equal(a, []Entry{{l[1], l[1], l[1]}, {l[2], l[2], l[2]}, {l[0], l[0], l[0]}}) {
		t.Error(a)
	}
	// An entry that somebody else removes ends the search.
	m.SetCell(at+16, 0)
	if _, n, ok := Get(m, at, l[2]); n != 2 || ok {
		t.Error(n, ok)
	}
}

func TestFull(t *testing.T) {
	m, at := made(t, 4)
	for sel := int64(1); sel <= 4; sel++ {
		if !May(m, at, sel) {
			t.Error("May", sel)
		}
		Put(m, at, Entry{sel, 0, 0})
	}
	before := m.Clone()
	if May(m, at, 5) || Put(m, at, Entry{5, 1, 1}) != api.TableFull {
		t.Error("a fifth one")
	}
	x, _ := m.Text(0, m.Size())
	if y, _ := before.Text(0, m.Size()); x != y {
		t.Error("a refused Put wrote")
	}
	if _, n, ok := Get(m, at, 5); n != 4 || ok {
		t.Error(n, ok)
	}
	if !May(m, at, 4) || Put(m, at, Entry{4, 9, 9}) != api.OK {
		t.Error("one that is there")
	}
}

func TestBelowOne(t *testing.T) {
	m, at := made(t, 4)
	for _, sel := range []int64{0, -1, math.MinInt64} {
		if x, n, ok := Get(m, at, sel); x != (Entry{}) || n != 1 || ok {
			t.Errorf("Get(%d): %v, %d, %v", sel, x, n, ok)
		}
		if May(m, at, sel) || Put(m, at, Entry{sel, 1, 1}) != api.Argument {
			t.Errorf("May or Put of %d", sel)
		}
	}
	for sel := int64(1); sel <= 4; sel++ {
		Put(m, at, Entry{sel, 0, 0})
	}
	for _, sel := range []int64{0, -1} {
		if _, n, ok := Get(m, at, sel); n != 4 || ok {
			t.Errorf("Get(%d): %d, %v", sel, n, ok)
		}
	}
	// One that somebody else wrote is found by the search, and is none.
	h := home(1<<64-1, 4)
	m.SetCell(at+16+24*h, -1)
	if x, n, ok := Get(m, at, -1); x != (Entry{}) || n != 1 || ok {
		t.Error(x, n, ok)
	}
	if May(m, at, -1) || len(All(m, at)) != 4 {
		t.Error("May, All")
	}
}

func TestNoTable(t *testing.T) {
	s := room(t, 64, 0, 64)
	for _, c := range []struct{ at, n int64 }{
		{0, 0}, {0, -1}, {0, 1025}, {0, 3}, {8, 2}, {16, 2}, {32, 1}, {56, 1}, {64, 1}, {-8, 1}, {4, 1}, {math.MaxInt64 - 7, 1}, {math.MinInt64, 1},
	} {
		m := s.Mem.Clone()
		m.SetCell(c.at, c.n)
		if Slots(m, c.at) != 0 || May(m, c.at, 1) || Put(m, c.at, Entry{1, 1, 1}) != api.Argument || len(All(m, c.at)) != 0 {
			t.Errorf("%d at %d", c.n, c.at)
		}
		if x, n, ok := Get(m, c.at, 1); x != (Entry{}) || n != 0 || ok {
			t.Errorf("%d at %d: %v, %d, %v", c.n, c.at, x, n, ok)
		}
	}
	m := s.Mem.Clone()
	m.SetCell(24, 1)
	if Slots(m, 24) != 1 {
		t.Error("a table that ends with the memory")
	}
	if Slots(nil, 0) != 0 || May(nil, 0, 1) || Put(nil, 0, Entry{1, 1, 1}) != api.Argument || len(All(nil, 0)) != 0 {
		t.Error("a nil memory")
	}
	if _, n, ok := Get(nil, 0, 1); n != 0 || ok {
		t.Error(n, ok)
	}
}

func TestCopy(t *testing.T) {
	s := room(t, 512, 8, 300)
	a, _ := New(s, 3)
	Put(s.Mem, a, Entry{1, 2, 3})
	Put(s.Mem, a, Entry{4, 5, 6})
	s.SetCell(a+8, -9)
	s.Char(1)
	b, e := Copy(s, a)
	if b != a+96 || e != api.OK || s.Here() != b+88 {
		t.Error(b, e, s.Here())
	}
	x, _ := s.Text(a, 88)
	if y, _ := s.Text(b, 88); x != y {
		t.Errorf("%q, not %q", y, x)
	}
	Put(s.Mem, b, Entry{1, 7, 8})
	if x, _, _ := Get(s.Mem, a, 1); x != (Entry{1, 2, 3}) {
		t.Error("the copy isn't independent")
	}
	here := s.Here()
	for _, at := range []int64{0, 4, -8, 512, s.Here()} {
		if c, e := Copy(s, at); c != 0 || e != api.Argument || s.Here() != here {
			t.Errorf("Copy(%d): %d, %d", at, c, e)
		}
	}
	s.Char(1)
	Copy(s, a)
	if c, e := Copy(s, a); c != 0 || e != api.DictOver || s.Here() != here+8+88 {
		t.Error(c, e, s.Here())
	}
	if c, e := Copy(nil, a); c != 0 || e != api.Argument {
		t.Error(c, e)
	}
}

// What was put last is found, whatever the order is, and at most as many slots are inspected as there are.
func TestLastIsFound(t *testing.T) {
	for _, slots := range []int64{1, 5, 16, 31} {
		m, at := made(t, slots)
		last := map[int64]Entry{}
		seed := uint32(9)
		for i := range int64(500) {
			seed = seed*1664525 + 1013904223
			x := Entry{Sel: int64(seed>>10)%40 + 1, XT: i, Class: -i}
			_, there := last[x.Sel]
			e := Put(m, at, x)
			if want := there || len(last) < int(slots); want != (e == api.OK) {
				t.Fatalf("Put(%v): %d", x, e)
			}
			if e == api.OK {
				last[x.Sel] = x
			}
			for sel := int64(1); sel <= 40; sel++ {
				x, n, ok := Get(m, at, sel)
				want, there := last[sel]
				if x != want || ok != there || n < 1 || n > int(slots) {
					t.Fatalf("Get(%d): %v, %d, %v; want %v", sel, x, n, ok, want)
				}
			}
		}
		if len(All(m, at)) != len(last) {
			t.Error(len(All(m, at)))
		}
	}
}
