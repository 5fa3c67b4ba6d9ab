package object

import (
	"math"
	"strings"
	"testing"

	"shed/api"
	"shed/class"
	"shed/heap"
	"shed/mem"
	"shed/space"
)

// world is a memory with a space up to 1024, a heap behind it, and a class with a size of 24 whose root is at 8.
func world(t *testing.T) (*space.Space, *heap.Heap, int64) {
	t.Helper()
	m, e := mem.New(1280)
	if e != api.OK {
		t.Fatal(e)
	}
	m.SetText(0, strings.Repeat("~", 1280))
	s, _ := space.New(m, 8, 1024)
	class.Root(s)
	c, e := class.New(s, 8, 0, 4)
	if e != api.OK {
		t.Fatal(e)
	}
	class.Grow(m, c, 16)
	h, e := heap.New(m, 1024, 1280)
	if e != api.OK {
		t.Fatal(e)
	}
	return s, h, c
}

func isObject(t *testing.T, m *mem.Mem, at, c, size int64) {
	t.Helper()
	if n, e := m.Cell(at); n != c || e != api.OK {
		t.Errorf("an object of %d at %d: %d, %d", c, at, n, e)
	}
	if x, _ := m.Text(at+8, size-8); x != strings.Repeat("\x00", int(size-8)) {
		t.Errorf("%q", x)
	}
}

func TestMake(t *testing.T) {
	s, _, c := world(t)
	if e := Make(s.Mem, 512, c); e != api.OK {
		t.Error(e)
	}
	isObject(t, s.Mem, 512, c, 24)
	for _, at := range []int64{504, 536} {
		if x, _ := s.Text(at, 8); x != "~~~~~~~~" {
			t.Errorf("%q at %d", x, at)
		}
	}
	before, _ := s.Text(0, 1280)
	for _, x := range []struct {
		at, c int64
		want  api.Code
	}{
		{512, c + 8, api.NoClass}, {-8, 0, api.NoClass}, {512, math.MaxInt64, api.NoClass},
		{516, c, api.Align}, {-8, c, api.Address}, {1280, c, api.Address}, {1264, c, api.Address}, {1260, c, api.Align},
		{math.MaxInt64 - 7, c, api.Address}, {math.MinInt64, c, api.Address},
	} {
		if e := Make(s.Mem, x.at, x.c); e != x.want {
			t.Errorf("Make(%d, %d): %d", x.at, x.c, e)
		}
	}
	if after, _ := s.Text(0, 1280); after != before {
		t.Error("a refused Make wrote")
	}
	if e := Make(s.Mem, 1256, c); e != api.OK {
		t.Error(e)
	}
	isObject(t, s.Mem, 1256, c, 24)
	if e := Make(nil, 0, c); e != api.NoClass {
		t.Error(e)
	}
}

func TestSizes(t *testing.T) {
	for size, want := range map[int64]api.Code{
		7: api.Argument, 0: api.Argument, -8: api.Argument, math.MinInt64: api.Argument, api.MaxMem + 1: api.Argument, math.MaxInt64: api.Argument,
		8: api.OK, 9: api.OK, 200: api.OK,
	} {
		s, h, c := world(t)
		s.SetCell(c+16, size)
		here := s.Here()
		if e := Make(s.Mem, 512, c); e != want {
			t.Errorf("Make of %d bytes: %d", size, e)
		}
		at, e := Heap(h, s.Mem, c)
		if e != want || (at != 0) != (want == api.OK) {
			t.Errorf("Heap of %d bytes: %d, %d", size, at, e)
		}
		at, e = Dict(s, c)
		if e != want || (at != 0) != (want == api.OK) || want != api.OK && s.Here() != here || want == api.OK && s.Here() != here+size {
			t.Errorf("Dict of %d bytes: %d, %d", size, at, e)
		}
		if want == api.OK {
			isObject(t, s.Mem, at, c, size)
		}
	}
	s, h, c := world(t)
	s.SetCell(c+16, api.MaxMem)
	if e := Make(s.Mem, 512, c); e != api.Address {
		t.Error(e)
	}
	if _, e := Heap(h, s.Mem, c); e != api.Allocate {
		t.Error(e)
	}
	if _, e := Dict(s, c); e != api.DictOver {
		t.Error(e)
	}
}

func TestHeap(t *testing.T) {
	s, h, c := world(t)
	at, e := Heap(h, s.Mem, c)
	if at != 1032 || e != api.OK {
		t.Error(at, e)
	}
	isObject(t, s.Mem, at, c, 24)
	if n, e := h.Size(at); n != 24 || e != api.OK {
		t.Error(n, e)
	}
	if at, e := Heap(h, s.Mem, c+8); at != 0 || e != api.NoClass {
		t.Error(at, e)
	}
	if at, e := Heap(nil, s.Mem, c); at != 0 || e != api.Argument {
		t.Error(at, e)
	}
	if at, e := Heap(nil, s.Mem, 0); at != 0 || e != api.NoClass {
		t.Error(at, e)
	}
	if at, e := Heap(h, nil, c); at != 0 || e != api.NoClass {
		t.Error(at, e)
	}
	for range 7 {
		if _, e := Heap(h, s.Mem, c); e != api.OK {
			t.Error(e)
		}
	}
	if at, e := Heap(h, s.Mem, c); at != 0 || e != api.Allocate {
		t.Error(at, e)
	}
	s.SetCell(1024, 3)
	if at, e := Heap(h, s.Mem, c); at != 0 || e != api.Broken {
		t.Error(at, e)
	}
}

func TestDict(t *testing.T) {
	s, _, c := world(t)
	here := s.Here()
	s.Char(1)
	at, e := Dict(s, c)
	if at != here+8 || e != api.OK || s.Here() != at+24 {
		t.Error(at, e, s.Here())
	}
	isObject(t, s.Mem, at, c, 24)
	if x, _ := s.Text(here, 8); x != "\x01\x00\x00\x00\x00\x00\x00\x00" {
		t.Errorf("%q", x)
	}
	s.Char(1)
	here = s.Here()
	for _, x := range []struct {
		s    *space.Space
		c    int64
		want api.Code
	}{{nil, 0, api.Argument}, {nil, c, api.Argument}, {s, c + 8, api.NoClass}, {s, -1, api.NoClass}} {
		if at, e := Dict(x.s, x.c); at != 0 || e != x.want || s.Here() != here {
			t.Error(at, e, s.Here())
		}
	}
	s.Allot(1024 - 24 - s.Here())
	at, e = Dict(s, c)
	if at != 1000 || e != api.OK || s.Here() != 1024 {
		t.Error(at, e)
	}
	s.Back(1001)
	before, _ := s.Text(0, 1280)
	if at, e := Dict(s, c); at != 0 || e != api.DictOver || s.Here() != 1001 {
		t.Error(at, e, s.Here())
	}
	after, _ := s.Text(0, 1280)
	if want := before[:1001] + strings.Repeat("\x00", 7) + before[1008:]; after != want {
		t.Error("what is written without room is bytes 0 up to a cell")
	}
	m, _ := mem.New(256)
	short, _ := space.New(m, 8, 133)
	class.Root(short)
	c, e = class.New(short, 8, 0, 1)
	if e != api.OK {
		t.Fatal(e)
	}
	short.Allot(130 - short.Here())
	if at, e := Dict(short, c); at != 0 || e != api.DictOver || short.Here() != 130 {
		t.Error(at, e, short.Here())
	}
}

func TestClass(t *testing.T) {
	s, h, c := world(t)
	at, _ := Heap(h, s.Mem, c)
	if x, e := Class(s.Mem, 8, at); x != c || e != api.OK {
		t.Error(x, e)
	}
	for _, x := range []int64{at + 8, at + 4, -8, 1280, 0, c, math.MaxInt64} {
		if n, e := Class(s.Mem, 8, x); n != 0 || e != api.NoClass {
			t.Errorf("Class(%d): %d, %d", x, n, e)
		}
	}
	if n, e := Class(s.Mem, 16, at); n != 0 || e != api.NoClass {
		t.Error("another root", n, e)
	}
	d, _ := class.New(s, 8, c, 0)
	s.SetCell(at, d)
	if x, e := Class(s.Mem, 8, at); x != d || e != api.OK {
		t.Error(x, e)
	}
	s.SetCell(8, c) // the later class is none of the root's any more
	if x, e := Class(s.Mem, 8, at); x != 0 || e != api.NoClass {
		t.Error(x, e)
	}
	if n, e := Class(nil, 8, at); n != 0 || e != api.NoClass {
		t.Error(n, e)
	}
}

func TestSend(t *testing.T) {
	s, h, c := world(t)
	for sel := int64(1); sel <= 4; sel++ {
		class.Set(s.Mem, 8, c, sel, 100+sel)
	}
	at, _ := Heap(h, s.Mem, c)
	for sel := int64(1); sel <= 4; sel++ {
		_, want, _ := class.Lookup(s.Mem, c, sel)
		if xt, n, e := Send(s.Mem, 8, at, sel); xt != 100+sel || n != want || e != api.OK {
			t.Errorf("Send(%d): %d, %d, %d", sel, xt, n, e)
		}
	}
	for _, sel := range []int64{5, 0, -1} {
		if xt, n, e := Send(s.Mem, 8, at, sel); xt != 0 || n != 0 || e != api.NoMethod {
			t.Errorf("Send(%d): %d, %d, %d", sel, xt, n, e)
		}
	}
	for _, x := range []int64{at + 8, -8, 4} {
		if xt, n, e := Send(s.Mem, 8, x, 1); xt != 0 || n != 0 || e != api.NoClass {
			t.Errorf("Send to %d: %d, %d, %d", x, xt, n, e)
		}
	}
	if xt, n, e := Send(nil, 8, at, 1); xt != 0 || n != 0 || e != api.NoClass {
		t.Error(xt, n, e)
	}
}
