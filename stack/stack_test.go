package stack

import (
	"math"
	"slices"
	"testing"

	"shed/api"
	"shed/mem"
)

func made(t *testing.T, size, from int64, cells int) (*mem.Mem, *Stack) {
	t.Helper()
	m, e := mem.New(size)
	if e != api.OK {
		t.Fatal(e)
	}
	s, e := New(m, from, cells, api.Over, api.Under)
	if e != api.OK || s == nil || s.Depth() != 0 || len(s.All()) != 0 {
		t.Fatalf("New: %d", e)
	}
	return m, s
}

func TestNew(t *testing.T) {
	m, _ := mem.New(32)
	for _, c := range []struct {
		m     *mem.Mem
		from  int64
		cells int
		want  api.Code
	}{
		{m, 0, 0, api.OK}, {m, 0, 4, api.OK}, {m, 24, 1, api.OK}, {m, 32, 0, api.OK},
		{nil, 0, 0, api.Argument}, {m, 4, 1, api.Argument}, {m, -8, 1, api.Argument}, {m, 40, 0, api.Argument},
		{m, 0, -1, api.Argument}, {m, 0, 5, api.Argument}, {m, 24, 2, api.Argument}, {m, 32, 1, api.Argument},
		{m, math.MaxInt64 - 7, 1, api.Argument}, {m, 8, math.MaxInt, api.Argument}, {m, 0, math.MinInt, api.Argument},
		{m, math.MinInt64, 1, api.Argument},
	} {
		s, e := New(c.m, c.from, c.cells, api.Over, api.Under)
		if e != c.want || (s != nil) != (e == api.OK) {
			t.Errorf("New(%d, %d): %v, %d", c.from, c.cells, s, e)
		}
	}
}

func TestPush(t *testing.T) {
	m, s := made(t, 64, 8, 4)
	if e := s.Push(1, 2, 3); e != api.OK || s.Depth() != 3 {
		t.Fatal(e, s.Depth())
	}
	for i, want := range []int64{0, 1, 2, 3, 0} {
		if n, _ := m.Cell(int64(i) * 8); n != want {
			t.Errorf("cell %d: %d", i, n)
		}
	}
	if e := s.Push(4, 5); e != api.Over || s.Depth() != 3 {
		t.Error(e, s.Depth())
	}
	if n, _ := m.Cell(32); n != 0 {
		t.Error("a refused Push wrote")
	}
	if e := s.Push(); e != api.OK || s.Depth() != 3 {
		t.Error(e)
	}
	if e := s.Push(-4); e != api.OK {
		t.Error(e)
	}
	if e := s.Push(5); e != api.Over {
		t.Error(e)
	}
	if e := s.Push(); e != api.OK {
		t.Error(e)
	}
	if l := s.All(); !slices.Equal(l, []int64{1, 2, 3, -4}) {
		t.Error(l)
	}
}

func TestAt(t *testing.T) {
	_, s := made(t, 64, 0, 8)
	s.Push(1, 2, 3)
	for _, c := range []struct {
		i    int
		n    int64
		want api.Code
	}{
		{0, 3, api.OK}, {1, 2, api.OK}, {2, 1, api.OK}, {3, 0, api.Under}, {math.MaxInt, 0, api.Under},
		{-1, 0, api.Argument}, {math.MinInt, 0, api.Argument},
	} {
		if n, e := s.At(c.i); n != c.n || e != c.want {
			t.Errorf("At(%d): %d, %d", c.i, n, e)
		}
	}
	if s.Depth() != 3 {
		t.Error("At changed the depth")
	}
}

func TestPop(t *testing.T) {
	m, s := made(t, 16, 0, 2)
	s.Push(7, 9)
	for _, want := range []int64{9, 7} {
		if n, e := s.Pop(); n != want || e != api.OK {
			t.Error(n, e)
		}
	}
	for range 2 {
		if n, e := s.Pop(); n != 0 || e != api.Under || s.Depth() != 0 {
			t.Error(n, e, s.Depth())
		}
	}
	if n, _ := m.Cell(8); n != 9 {
		t.Error("Pop wrote into the memory")
	}
	if e := s.Push(1); e != api.OK || s.Depth() != 1 {
		t.Error(e)
	}
}

func TestItsCodes(t *testing.T) {
	m, _ := mem.New(8)
	s, _ := New(m, 0, 1, api.ReturnOver, api.ReturnUp)
	if _, e := s.Pop(); e != api.ReturnUp {
		t.Error(e)
	}
	if e := s.Push(1, 2); e != api.ReturnOver {
		t.Error(e)
	}
	if e := s.Drop(2); e != api.ReturnOver {
		t.Error(e)
	}
}

func TestDrop(t *testing.T) {
	m, s := made(t, 64, 8, 3)
	m.SetCell(24, 33)
	s.Push(1, 2)
	if e := s.Drop(3); e != api.OK || !slices.Equal(s.All(), []int64{1, 2, 33}) {
		t.Error(e, s.All())
	}
	if e := s.Drop(1); e != api.OK || !slices.Equal(s.All(), []int64{1}) {
		t.Error(e, s.All())
	}
	for depth, want := range map[int]api.Code{-1: api.Argument, math.MinInt: api.Argument, 4: api.Over, math.MaxInt: api.Over} {
		if e := s.Drop(depth); e != want || s.Depth() != 1 {
			t.Errorf("Drop(%d): %d", depth, e)
		}
	}
	if e := s.Drop(0); e != api.OK || s.Depth() != 0 {
		t.Error(e)
	}
}

func TestAllIsNotShared(t *testing.T) {
	_, s := made(t, 16, 0, 2)
	s.Push(1, 2)
	s.All()[0] = 5
	if l := s.All(); !slices.Equal(l, []int64{1, 2}) {
		t.Error(l)
	}
}

func TestTwoInOneMemory(t *testing.T) {
	m, s := made(t, 32, 0, 2)
	r, _ := New(m, 16, 2, api.ReturnOver, api.ReturnUp)
	s.Push(1, 2)
	r.Push(3, 4)
	if !slices.Equal(s.All(), []int64{1, 2}) || !slices.Equal(r.All(), []int64{3, 4}) {
		t.Error(s.All(), r.All())
	}
	m.SetCell(8, 6)
	if n, _ := s.At(0); n != 6 {
		t.Error("a stack's numbers aren't those of its memory")
	}
}

func TestNil(t *testing.T) {
	var s *Stack
	if s.Depth() != 0 || len(s.All()) != 0 || s.Push(1) != api.Argument || s.Push() != api.Argument || s.Drop(0) != api.Argument {
		t.Error("a nil stack")
	}
	if n, e := s.At(0); n != 0 || e != api.Argument {
		t.Error(n, e)
	}
	if n, e := s.Pop(); n != 0 || e != api.Argument {
		t.Error(n, e)
	}
}
