package mem

import (
	"math"
	"strings"
	"testing"

	"shed/api"
)

func made(t *testing.T, size int64) *Mem {
	t.Helper()
	m, e := New(size)
	if e != api.OK || m == nil {
		t.Fatalf("New(%d): %d", size, e)
	}
	return m
}

func TestNew(t *testing.T) {
	for _, size := range []int64{0, 8, 16, api.MaxMem} {
		m := made(t, size)
		if m.Size() != size {
			t.Errorf("Size of %d: %d", size, m.Size())
		}
		s, e := m.Text(0, size)
		if e != api.OK || s != strings.Repeat("\x00", int(size)) {
			t.Errorf("New(%d): not all bytes are 0", size)
		}
	}
	for _, size := range []int64{-8, -1, 1, 12, api.MaxMem + 1, api.MaxMem + 8, math.MaxInt64, math.MinInt64} {
		if m, e := New(size); m != nil || e != api.Argument {
			t.Errorf("New(%d): %v, %d", size, m, e)
		}
	}
}

func TestCells(t *testing.T) {
	m := made(t, 32)
	for _, n := range []int64{0, 1, -1, -2, 0x0102030405060708, math.MaxInt64, math.MinInt64} {
		if e := m.SetCell(8, n); e != api.OK {
			t.Fatal(e)
		}
		if x, e := m.Cell(8); x != n || e != api.OK {
			t.Errorf("Cell after SetCell of %d: %d, %d", n, x, e)
		}
	}
	m.SetCell(8, -2)
	if n, _ := m.Byte(8); n != 254 {
		t.Errorf("Byte(8) = %d", n)
	}
	m.SetCell(8, 0x0102030405060708)
	if s, _ := m.Text(7, 10); s != "\x00\x08\x07\x06\x05\x04\x03\x02\x01\x00" {
		t.Errorf("a cell's bytes: %q", s)
	}
}

func TestCellCodes(t *testing.T) {
	m := made(t, 32)
	for _, c := range []struct {
		a    int64
		want api.Code
	}{
		{0, api.OK}, {24, api.OK}, {1, api.Align}, {4, api.Align}, {23, api.Align},
		{25, api.Address}, {31, api.Address}, {32, api.Address}, {-1, api.Address}, {-8, api.Address},
		{math.MaxInt64, api.Address}, {math.MaxInt64 - 7, api.Address}, {math.MinInt64, api.Address},
	} {
		if n, e := m.Cell(c.a); e != c.want || n != 0 {
			t.Errorf("Cell(%d): %d, %d", c.a, n, e)
		}
		if e := m.SetCell(c.a, 0); e != c.want {
			t.Errorf("SetCell(%d): %d", c.a, e)
		}
	}
}

func TestRefusedWritesChangeNothing(t *testing.T) {
	m := made(t, 16)
	m.SetText(0, "0123456789abcdef")
	m.SetCell(4, -1)
	m.SetCell(9, -1)
	m.SetByte(16, 1)
	m.SetByte(-1, 1)
	m.SetText(15, "xy")
	m.SetText(-1, "xy")
	if s, _ := m.Text(0, 16); s != "0123456789abcdef" {
		t.Errorf("%q", s)
	}
}

func TestBytes(t *testing.T) {
	m := made(t, 8)
	for _, c := range []struct{ n, want int64 }{{0, 0}, {255, 255}, {256, 0}, {-1, 255}, {-257, 255}, {0x1234, 0x34}, {math.MinInt64, 0}} {
		if e := m.SetByte(7, c.n); e != api.OK {
			t.Error(e)
		}
		if n, e := m.Byte(7); n != c.want || e != api.OK {
			t.Errorf("SetByte(%d): %d, %d", c.n, n, e)
		}
	}
	for _, a := range []int64{-1, 8, math.MaxInt64, math.MinInt64} {
		if n, e := m.Byte(a); n != 0 || e != api.Address {
			t.Errorf("Byte(%d): %d, %d", a, n, e)
		}
		if e := m.SetByte(a, 1); e != api.Address {
			t.Errorf("SetByte(%d): %d", a, e)
		}
	}
}

func TestTexts(t *testing.T) {
	m := made(t, 16)
	if e := m.SetText(3, "hello"); e != api.OK {
		t.Fatal(e)
	}
	if s, e := m.Text(2, 7); s != "\x00hello\x00" || e != api.OK {
		t.Errorf("%q, %d", s, e)
	}
	if e := m.SetText(0, "0123456789abcdef"); e != api.OK {
		t.Error(e)
	}
	if s, e := m.Text(0, 16); s != "0123456789abcdef" || e != api.OK {
		t.Errorf("%q, %d", s, e)
	}
	for _, a := range []int64{0, 5, 16} {
		if s, e := m.Text(a, 0); s != "" || e != api.OK {
			t.Errorf("Text(%d, 0): %q, %d", a, s, e)
		}
		if e := m.SetText(a, ""); e != api.OK {
			t.Errorf("SetText(%d, empty): %d", a, e)
		}
	}
	for _, c := range []struct{ a, n int64 }{
		{17, 0}, {-1, 0}, {3, -1}, {-1, 1}, {16, 1}, {0, 17}, {10, 7},
		{math.MaxInt64, math.MaxInt64}, {1, math.MaxInt64}, {math.MinInt64, 1}, {8, math.MinInt64},
	} {
		if s, e := m.Text(c.a, c.n); s != "" || e != api.Address {
			t.Errorf("Text(%d, %d): %q, %d", c.a, c.n, s, e)
		}
	}
	for _, a := range []int64{-1, 17, math.MaxInt64, math.MinInt64} {
		if e := m.SetText(a, ""); e != api.Address {
			t.Errorf("SetText(%d): %d", a, e)
		}
	}
	if e := m.SetText(0, strings.Repeat("x", 17)); e != api.Address {
		t.Error(e)
	}
}

func TestClone(t *testing.T) {
	m := made(t, 16)
	m.SetCell(0, 1)
	c := m.Clone()
	if n, e := c.Cell(0); n != 1 || e != api.OK || c.Size() != 16 {
		t.Error(n, e)
	}
	m.SetCell(0, 2)
	c.SetCell(8, 3)
	if n, _ := c.Cell(0); n != 1 {
		t.Error("the clone changed with the original")
	}
	if n, _ := m.Cell(8); n != 0 {
		t.Error("the original changed with the clone")
	}
}

func TestNil(t *testing.T) {
	var m *Mem
	if m.Size() != 0 || m.Clone() != nil {
		t.Error("Size, Clone")
	}
	if _, e := m.Cell(0); e != api.Address {
		t.Error(e)
	}
	if e := m.SetCell(0, 1); e != api.Address {
		t.Error(e)
	}
	if _, e := m.Byte(0); e != api.Address {
		t.Error(e)
	}
	if e := m.SetByte(0, 1); e != api.Address {
		t.Error(e)
	}
	if s, e := m.Text(0, 0); s != "" || e != api.OK {
		t.Error(s, e)
	}
	if e := m.SetText(0, ""); e != api.OK {
		t.Error(e)
	}
	if _, e := m.Text(0, 1); e != api.Address {
		t.Error(e)
	}
	if e := m.SetText(0, "a"); e != api.Address {
		t.Error(e)
	}
	if e := m.SetText(1, ""); e != api.Address {
		t.Error(e)
	}
}
