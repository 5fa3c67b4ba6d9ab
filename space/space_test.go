package space

import (
	"math"
	"strings"
	"testing"

	"shed/api"
	"shed/mem"
)

func made(t *testing.T, size, from, to int64) *Space {
	t.Helper()
	m, e := mem.New(size)
	if e != api.OK {
		t.Fatal(e)
	}
	m.SetText(0, strings.Repeat("~", int(size)))
	s, e := New(m, from, to)
	if e != api.OK || s == nil || s.Here() != from || s.Mem != m {
		t.Fatalf("New(%d, %d): %d", from, to, e)
	}
	return s
}

func isAll(t *testing.T, s *Space, here int64, want string) {
	t.Helper()
	if s.Here() != here {
		t.Errorf("Here: %d, not %d", s.Here(), here)
	}
	if x, _ := s.Text(0, s.Size()); x != want {
		t.Errorf("%q, not %q", x, want)
	}
}

func TestNew(t *testing.T) {
	m, _ := mem.New(16)
	for _, c := range []struct {
		m        *mem.Mem
		from, to int64
		want     api.Code
	}{
		{m, 0, 16, api.OK}, {m, 3, 5, api.OK}, {m, 5, 5, api.OK}, {m, 16, 16, api.OK}, {m, 0, 0, api.OK},
		{nil, 0, 0, api.Argument}, {m, -1, 5, api.Argument}, {m, 5, 4, api.Argument}, {m, 0, 17, api.Argument},
		{m, 17, 17, api.Argument}, {m, math.MinInt64, 5, api.Argument}, {m, 0, math.MaxInt64, api.Argument},
		{m, 0, math.MinInt64, api.Argument},
	} {
		s, e := New(c.m, c.from, c.to)
		if e != c.want || (s != nil) != (e == api.OK) {
			t.Errorf("New(%d, %d): %v, %d", c.from, c.to, s, e)
		}
	}
}

func TestAllot(t *testing.T) {
	s := made(t, 16, 3, 12)
	for _, c := range []struct {
		n, here int64
		want    api.Code
	}{
		{5, 8, api.OK}, {4, 12, api.OK}, {1, 12, api.DictOver}, {0, 12, api.OK}, {-9, 3, api.OK}, {-1, 3, api.DictOver},
		{9, 12, api.OK}, {-10, 12, api.DictOver}, {-4, 8, api.OK}, {5, 8, api.DictOver},
		{math.MaxInt64, 8, api.DictOver}, {math.MinInt64, 8, api.DictOver}, {-5, 3, api.OK}, {10, 3, api.DictOver},
	} {
		if e := s.Allot(c.n); e != c.want || s.Here() != c.here {
			t.Errorf("Allot(%d): %d, %d", c.n, e, s.Here())
		}
	}
	isAll(t, s, 3, strings.Repeat("~", 16))
}

func TestComma(t *testing.T) {
	s := made(t, 24, 8, 24)
	if e := s.Comma(-1); e != api.OK {
		t.Error(e)
	}
	if e := s.Char(65); e != api.OK {
		t.Error(e)
	}
	isAll(t, s, 17, "~~~~~~~~\xff\xff\xff\xff\xff\xff\xff\xffA~~~~~~~")
	if e := s.Comma(1); e != api.DictOver { // no room comes before a place that is no cell's
		t.Error(e)
	}
	s.Back(9)
	if e := s.Comma(1); e != api.Align {
		t.Error(e)
	}
	isAll(t, s, 9, "~~~~~~~~\xff\xff\xff\xff\xff\xff\xff\xffA~~~~~~~")
	s.Back(8)
	if e := s.Comma(0x4142434445464748); e != api.OK {
		t.Error(e)
	}
	if e := s.Comma(0); e != api.OK {
		t.Error(e)
	}
	if e := s.Comma(0); e != api.DictOver {
		t.Error(e)
	}
	isAll(t, s, 24, "~~~~~~~~HGFEDCBA\x00\x00\x00\x00\x00\x00\x00\x00")
}

func TestChars(t *testing.T) {
	s := made(t, 8, 1, 7)
	if e := s.Chars("abc"); e != api.OK {
		t.Error(e)
	}
	if e := s.Char(256 + 66); e != api.OK {
		t.Error(e)
	}
	isAll(t, s, 5, "~abcB~~~")
	if e := s.Chars("def"); e != api.DictOver {
		t.Error(e)
	}
	isAll(t, s, 5, "~abcB~~~")
	if e := s.Chars(""); e != api.OK {
		t.Error(e)
	}
	if e := s.Chars("de"); e != api.OK {
		t.Error(e)
	}
	if e := s.Char(1); e != api.DictOver {
		t.Error(e)
	}
	if e := s.Chars(""); e != api.OK {
		t.Error(e)
	}
	isAll(t, s, 7, "~abcBde~")
}

func TestAlign(t *testing.T) {
	s := made(t, 16, 0, 16)
	if e := s.Align(); e != api.OK {
		t.Error(e)
	}
	isAll(t, s, 0, strings.Repeat("~", 16))
	s.Char('x')
	if e := s.Align(); e != api.OK {
		t.Error(e)
	}
	isAll(t, s, 8, "x\x00\x00\x00\x00\x00\x00\x00~~~~~~~~")
	s = made(t, 16, 3, 6)
	if e := s.Align(); e != api.DictOver {
		t.Error(e)
	}
	isAll(t, s, 6, "~~~\x00\x00\x00~~~~~~~~~~")
}

func TestBack(t *testing.T) {
	s := made(t, 16, 4, 16)
	s.Allot(6)
	for _, c := range []struct {
		to, here int64
		want     api.Code
	}{
		{11, 10, api.Argument}, {10, 10, api.OK}, {3, 10, api.Argument}, {-1, 10, api.Argument}, {7, 7, api.OK},
		{8, 7, api.Argument}, {4, 4, api.OK}, {5, 4, api.Argument}, {math.MaxInt64, 4, api.Argument}, {math.MinInt64, 4, api.Argument},
	} {
		if e := s.Back(c.to); e != c.want || s.Here() != c.here {
			t.Errorf("Back(%d): %d, %d", c.to, e, s.Here())
		}
	}
}

func TestTheMemoryIsKept(t *testing.T) {
	m, _ := mem.New(16)
	s, _ := New(m, 0, 16)
	s.Comma(7)
	if n, _ := m.Cell(0); n != 7 {
		t.Error(n)
	}
	m.SetCell(8, 9)
	if n, _ := s.Cell(8); n != 9 {
		t.Error(n)
	}
}

func TestNil(t *testing.T) {
	var s *Space
	if s.Here() != 0 || s.Align() != api.OK {
		t.Error("Here, Align")
	}
	for _, e := range []api.Code{s.Allot(0), s.Comma(1), s.Char(1), s.Chars(""), s.Back(0)} {
		if e != api.Argument {
			t.Error(e)
		}
	}
}
