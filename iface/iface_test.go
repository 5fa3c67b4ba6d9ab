package iface

import (
	"math"
	"slices"
	"strings"
	"testing"

	"shed/api"
	"shed/class"
	"shed/mem"
	"shed/space"
)

func room(t *testing.T, size, from, to int64) *space.Space {
	t.Helper()
	m, e := mem.New(size)
	if e != api.OK {
		t.Fatal(e)
	}
	m.SetText(0, strings.Repeat("~", int(size)))
	s, e := space.New(m, from, to)
	if e != api.OK {
		t.Fatal(e)
	}
	return s
}

func TestNew(t *testing.T) {
	s := room(t, 128, 3, 128)
	at, e := New(s, 5, -1)
	if at != 8 || e != api.OK || s.Here() != 32 {
		t.Error(at, e, s.Here())
	}
	zeros := strings.Repeat("\x00", 7)
	if x, _ := s.Text(0, 36); x != "~~~"+zeros[:5]+"\x02"+zeros+"\x05"+zeros+strings.Repeat("\xff", 8)+"~~~~" {
		t.Errorf("%q", x)
	}
	if at, e := New(s); at != 32 || e != api.OK || s.Here() != 40 {
		t.Error(at, e, s.Here())
	}
	many := make([]int64, 1025)
	for _, c := range []struct {
		s    *space.Space
		sels []int64
		want api.Code
	}{{nil, nil, api.Argument}, {nil, many, api.Argument}, {s, many, api.Argument}, {s, many[:1024], api.DictOver}} {
		if at, e := New(c.s, c.sels...); at != 0 || e != c.want || s.Here() != 40 {
			t.Error(at, e, s.Here())
		}
	}
	s = room(t, 1<<14, 0, 1<<14)
	if at, e := New(s, many[:1024]...); at != 0 || e != api.OK || s.Here() != 8*1025 {
		t.Error(at, e, s.Here())
	}
	if l, ok := Sels(s.Mem, 0); len(l) != 1024 || !ok {
		t.Error(len(l), ok)
	}
}

func TestNewWithoutRoom(t *testing.T) {
	for to := int64(4); to < 32; to++ {
		s := room(t, 64, 3, to)
		if at, e := New(s, 1, 2); at != 0 || e != api.DictOver || s.Here() != 3 {
			t.Errorf("up to %d: %d, %d, %d", to, at, e, s.Here())
		}
	}
	s := room(t, 64, 3, 32)
	if at, e := New(s, 1, 2); at != 8 || e != api.OK {
		t.Error(at, e)
	}
}

func TestSels(t *testing.T) {
	s := room(t, 128, 0, 128)
	at, _ := New(s, 7, 0, 7)
	if l, ok := Sels(s.Mem, at); !slices.Equal(l, []int64{7, 0, 7}) || !ok {
		t.Error(l, ok)
	}
	at, _ = New(s)
	if l, ok := Sels(s.Mem, at); len(l) != 0 || !ok {
		t.Error(l, ok)
	}
	for _, c := range []struct {
		at, n int64
		ok    bool
	}{
		{120, 0, true}, {120, 1, false}, {112, 1, true}, {112, 2, false}, {0, -1, false}, {0, 15, true}, {0, 16, false}, {0, 1025, false},
		{0, math.MaxInt64, false}, {0, math.MinInt64, false}, {4, 0, false}, {-8, 0, false}, {128, 0, false}, {math.MaxInt64 - 7, 0, false},
	} {
		m := s.Mem.Clone()
		m.SetCell(c.at, c.n)
		if l, ok := Sels(m, c.at); ok != c.ok || ok && len(l) != int(c.n) || !ok && len(l) != 0 {
			t.Errorf("%d at %d: %v, %v", c.n, c.at, l, ok)
		}
	}
	if l, ok := Sels(nil, 0); len(l) != 0 || ok {
		t.Error(l, ok)
	}
	big := room(t, 1<<14, 0, 1<<14)
	big.SetCell(0, 1025)
	if _, ok := Sels(big.Mem, 0); ok {
		t.Error("1025 selectors")
	}
}

func TestMissing(t *testing.T) {
	s := room(t, 2048, 8, 2048)
	root, _ := class.Root(s)
	a, _ := class.New(s, root, 0, 4)
	class.Set(s.Mem, root, a, 1, 10)
	b, _ := class.New(s, root, a, 4)
	class.Set(s.Mem, root, b, 3, 30)
	both, _ := New(s, 1, 2)
	one, _ := New(s, 3, 1)
	none, _ := New(s)
	odd, _ := New(s, 1, 0)
	minus, _ := New(s, -5, 2)
	for _, c := range []struct {
		at, class, sel int64
		want           api.Code
	}{
		{both, a, 2, api.Conform}, {both, b, 2, api.Conform}, {one, a, 3, api.Conform}, {one, b, 0, api.OK}, {none, a, 0, api.OK},
		{odd, a, 0, api.Conform}, {minus, a, -5, api.Conform},
		{none, 0, 0, api.NoClass}, {both, a + 8, 0, api.NoClass}, {-8, a, 0, api.Argument}, {2048, 0, 0, api.Argument}, {a, a, 0, api.Argument},
	} {
		if sel, e := Missing(s.Mem, c.at, c.class); sel != c.sel || e != c.want {
			t.Errorf("Missing(%d, %d): %d, %d", c.at, c.class, sel, e)
		}
	}
	if sel, e := Missing(nil, 0, 0); sel != 0 || e != api.Argument {
		t.Error(sel, e)
	}
}
