package heap

import (
	"math"
	"slices"
	"strings"
	"testing"

	"shed/api"
	"shed/mem"
)

func made(t *testing.T, size, from, to int64) (*mem.Mem, *Heap) {
	t.Helper()
	m, e := mem.New(size)
	if e != api.OK {
		t.Fatal(e)
	}
	h, e := New(m, from, to)
	if e != api.OK || h == nil {
		t.Fatalf("New(%d, %d): %d", from, to, e)
	}
	return m, h
}

func isBlocks(t *testing.T, h *Heap, want ...int64) {
	t.Helper()
	if l, e := h.Blocks(); e != api.OK || !slices.Equal(l, want) {
		t.Errorf("Blocks: %v, %d; want %v", l, e, want)
	}
}

func alloc(t *testing.T, h *Heap, n int64) int64 {
	t.Helper()
	a, e := h.Alloc(n)
	if e != api.OK {
		t.Fatalf("Alloc(%d): %d", n, e)
	}
	return a
}

func TestNew(t *testing.T) {
	m, _ := mem.New(64)
	for _, c := range []struct {
		m        *mem.Mem
		from, to int64
		want     api.Code
	}{
		{m, 0, 64, api.OK}, {m, 8, 24, api.OK}, {m, 48, 64, api.OK},
		{nil, 0, 64, api.Argument}, {m, 4, 64, api.Argument}, {m, 0, 60, api.Argument}, {m, -8, 64, api.Argument},
		{m, 0, 72, api.Argument}, {m, 8, 16, api.Argument}, {m, 8, 8, api.Argument}, {m, 32, 8, api.Argument},
		{m, 8, math.MinInt64, api.Argument}, {m, math.MinInt64, 64, api.Argument}, {m, 0, math.MaxInt64 - 7, api.Argument},
		{m, math.MaxInt64 - 7, 64, api.Argument},
	} {
		h, e := New(c.m, c.from, c.to)
		if e != c.want || (h != nil) != (e == api.OK) {
			t.Errorf("New(%d, %d): %v, %d", c.from, c.to, h, e)
		}
	}
	m, h := made(t, 64, 8, 40)
	if s, _ := m.Text(0, 64); s != strings.Repeat("\x00", 8)+"\x20"+strings.Repeat("\x00", 55) {
		t.Errorf("%q", s)
	}
	isBlocks(t, h, 32)
}

func TestAlloc(t *testing.T) {
	m, h := made(t, 64, 0, 64)
	if a := alloc(t, h, 10); a != 8 {
		t.Error(a)
	}
	isBlocks(t, h, -24, 40)
	if n, _ := m.Cell(0); n != 25 {
		t.Error(n)
	}
	if n, _ := m.Cell(24); n != 40 {
		t.Error(n)
	}
	if a := alloc(t, h, 0); a != 32 {
		t.Error(a)
	}
	isBlocks(t, h, -24, -16, 24)
	if _, e := h.Alloc(17); e != api.Allocate {
		t.Error(e)
	}
	// 8 bytes would be left, which are no block.
	if a := alloc(t, h, 8); a != 48 {
		t.Error(a)
	}
	isBlocks(t, h, -24, -16, -24)
	if n, e := h.Size(48); n != 16 || e != api.OK {
		t.Error(n, e)
	}
	if a, e := h.Alloc(0); a != 0 || e != api.Allocate {
		t.Error(a, e)
	}
}

func TestAllocSizes(t *testing.T) {
	for n, want := range map[int64]int64{0: 16, 1: 16, 8: 16, 9: 24, 16: 24, 17: 32, 100: 112} {
		_, h := made(t, 256, 0, 256)
		alloc(t, h, n)
		isBlocks(t, h, -want, 256-want)
	}
	_, h := made(t, 64, 0, 64)
	alloc(t, h, 40) // leaves exactly the smallest block
	isBlocks(t, h, -48, 16)
	_, h = made(t, 64, 0, 64)
	alloc(t, h, 56)
	isBlocks(t, h, -64)
	_, h = made(t, 64, 0, 64)
	alloc(t, h, 48)
	isBlocks(t, h, -64)
}

func TestAllocTakesTheFirst(t *testing.T) {
	_, h := made(t, 128, 0, 128)
	a, b, c := alloc(t, h, 24), alloc(t, h, 8), alloc(t, h, 16)
	alloc(t, h, 8)
	h.Free(a)
	h.Free(c)
	isBlocks(t, h, 32, -16, 24, -16, 40)
	if x := alloc(t, h, 16); x != a {
		t.Error(x)
	}
	isBlocks(t, h, -32, -16, 24, -16, 40)
	if x := alloc(t, h, 20); x != 96 {
		t.Error(x)
	}
	if x := alloc(t, h, 9); x != c {
		t.Error(x)
	}
	if n, e := h.Size(b); n != 8 || e != api.OK {
		t.Error(n, e)
	}
}

func TestAllocRefused(t *testing.T) {
	m, h := made(t, 64, 0, 64)
	for _, n := range []int64{-1, math.MinInt64, api.MaxMem + 1, math.MaxInt64, 57, api.MaxMem} {
		if a, e := h.Alloc(n); a != 0 || e != api.Allocate {
			t.Errorf("Alloc(%d): %d, %d", n, a, e)
		}
	}
	isBlocks(t, h, 64)
	m.SetCell(0, 7)
	for n, want := range map[int64]api.Code{-1: api.Allocate, api.MaxMem + 1: api.Allocate, 0: api.Broken, api.MaxMem: api.Broken} {
		if a, e := h.Alloc(n); a != 0 || e != want {
			t.Errorf("Alloc(%d) when broken: %d, %d", n, a, e)
		}
	}
}

func TestFreeJoins(t *testing.T) {
	setup := func() (*mem.Mem, *Heap, [3]int64) {
		m, h := made(t, 96, 0, 96)
		return m, h, [3]int64{alloc(t, h, 16), alloc(t, h, 16), alloc(t, h, 40)}
	}
	_, h, a := setup()
	isBlocks(t, h, -24, -24, -48)
	h.Free(a[1])
	isBlocks(t, h, -24, 24, -48)
	h.Free(a[0]) // with the next one
	isBlocks(t, h, 48, -48)
	h.Free(a[2]) // with the previous one
	isBlocks(t, h, 96)
	m, h, a := setup()
	h.Free(a[0])
	h.Free(a[2])
	isBlocks(t, h, 24, -24, 48)
	h.Free(a[1]) // with both
	isBlocks(t, h, 96)
	for at, want := range map[int64]int64{0: 96, 24: 25, 48: 48} {
		if n, _ := m.Cell(at); n != want {
			t.Errorf("cell %d: %d; only the joined block's header is written", at, n)
		}
	}
}

func TestFreeRefused(t *testing.T) {
	m, h := made(t, 64, 8, 64)
	a := alloc(t, h, 8)
	for _, x := range []int64{0, -8, 8, a + 8, a - 8, a + 1, 32, 64, math.MaxInt64, math.MinInt64} {
		if e := h.Free(x); e != api.Free {
			t.Errorf("Free(%d): %d", x, e)
		}
		if n, e := h.Size(x); n != 0 || e != api.Free {
			t.Errorf("Size(%d): %d, %d", x, n, e)
		}
		if n, e := h.Resize(x, 1); n != 0 || e != api.Free {
			t.Errorf("Resize(%d): %d, %d", x, n, e)
		}
	}
	if e := h.Free(a); e != api.OK {
		t.Error(e)
	}
	if e := h.Free(a); e != api.Free {
		t.Error(e)
	}
	m.SetCell(8, 3)
	if e := h.Free(a); e != api.Broken {
		t.Error(e)
	}
	if _, e := h.Size(a); e != api.Broken {
		t.Error(e)
	}
	if _, e := h.Resize(a, -1); e != api.Broken {
		t.Error(e)
	}
}

func TestBroken(t *testing.T) {
	for _, n := range []int64{0, 1, 8, 9, 15, 18, 20, 26, -16, -15, 49, 56, 72, 73, math.MaxInt64, math.MinInt64, math.MaxInt64 - 7} {
		m, h := made(t, 64, 0, 64)
		alloc(t, h, 8)
		m.SetCell(16, n)
		l, e := h.Blocks()
		if n == 49 {
			if e != api.OK || !slices.Equal(l, []int64{-16, -48}) {
				t.Error(l, e)
			}
			continue
		}
		if e != api.Broken || len(l) != 0 {
			t.Errorf("header %d: %v, %d", n, l, e)
		}
	}
	m, h := made(t, 64, 0, 64)
	m.SetCell(0, 32)
	m.SetCell(32, 33) // the last block ends where the heap does
	isBlocks(t, h, 32, -32)
	m.SetCell(32, 24) // a header would be beyond it, with too few bytes
	m.SetCell(56, 8)
	if _, e := h.Blocks(); e != api.Broken {
		t.Error(e)
	}
}

func TestResize(t *testing.T) {
	m, h := made(t, 128, 0, 128)
	a := alloc(t, h, 16)
	b := alloc(t, h, 8)
	m.SetText(a, "0123456789abcdef")
	for _, n := range []int64{0, 1, 16} {
		if x, e := h.Resize(a, n); x != a || e != api.OK {
			t.Errorf("Resize(%d): %d, %d", n, x, e)
		}
	}
	isBlocks(t, h, -24, -16, 88)
	x, e := h.Resize(a, 17)
	if x != 48 || e != api.OK {
		t.Fatal(x, e)
	}
	isBlocks(t, h, 24, -16, -32, 56)
	if s, _ := m.Text(x, 24); s != "0123456789abcdef"+strings.Repeat("\x00", 8) {
		t.Errorf("%q", s)
	}
	for _, n := range []int64{-1, math.MinInt64, 1000, api.MaxMem + 1} {
		if y, e := h.Resize(x, n); y != 0 || e != api.Resize {
			t.Errorf("Resize(%d): %d, %d", n, y, e)
		}
	}
	isBlocks(t, h, 24, -16, -32, 56)
	if n, e := h.Size(b); n != 8 || e != api.OK {
		t.Error(n, e)
	}
}

func TestNil(t *testing.T) {
	var h *Heap
	if a, e := h.Alloc(-1); a != 0 || e != api.Argument {
		t.Error(a, e)
	}
	if e := h.Free(8); e != api.Argument {
		t.Error(e)
	}
	if n, e := h.Size(8); n != 0 || e != api.Argument {
		t.Error(n, e)
	}
	if n, e := h.Resize(8, 1); n != 0 || e != api.Argument {
		t.Error(n, e)
	}
	if l, e := h.Blocks(); len(l) != 0 || e != api.Argument {
		t.Error(l, e)
	}
}

// Many calls in a row: no two adjacent blocks are unused, all blocks fill the heap, and contents remain.
func TestMany(t *testing.T) {
	m, h := made(t, 1024, 16, 1016)
	held := map[int64]string{}
	seed := uint32(1)
	next := func(n uint32) uint32 {
		seed = seed*1664525 + 1013904223
		return (seed >> 8) % n
	}
	for i := range 3000 {
		var some int64
		for a := range held {
			if some == 0 || a < some {
				some = a
			}
		}
		switch next(3) {
		case 0, 1:
			n := int64(next(90))
			if a, e := h.Alloc(n); e == api.OK {
				held[a] = strings.Repeat(string(rune('a'+i%26)), int(n))
				m.SetText(a, held[a])
			}
		default:
			if some == 0 {
				continue
			}
			if a, e := h.Resize(some, int64(next(200))); e == api.OK && a != some && next(2) == 0 {
				held[a] = held[some]
				delete(held, some)
			} else if e == api.OK && a == some {
				h.Free(a)
				delete(held, a)
			} else if e == api.OK {
				h.Free(a)
				delete(held, some)
			}
		}
		l, e := h.Blocks()
		if e != api.OK {
			t.Fatal(i, e)
		}
		sum, before := int64(0), int64(-1)
		for _, b := range l {
			if b > 0 && before > 0 {
				t.Fatal(i, l)
			}
			sum, before = sum+max(b, -b), b
		}
		if sum != 1000 {
			t.Fatal(i, l)
		}
		for a, s := range held {
			if x, _ := m.Text(a, int64(len(s))); x != s {
				t.Fatalf("%d: at %d: %q, not %q", i, a, x, s)
			}
		}
	}
}
