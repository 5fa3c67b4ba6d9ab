package control

import (
	"math"
	"slices"
	"testing"

	"shed/api"
)

func TestKinds(t *testing.T) {
	if If != 0 || Begin != 1 || While != 2 || Do != 3 || Most != 100 {
		t.Error(If, Begin, While, Do, Most)
	}
}

func TestOpenAndClose(t *testing.T) {
	var s Stack
	if !s.Closed() {
		t.Error("Closed")
	}
	for i, k := range []Kind{If, Begin, While, Do, If} {
		if e := s.Open(k, int64(i)-2); e != api.OK || s.Closed() || len(s) != i+1 {
			t.Error(k, e, s)
		}
	}
	if !slices.Equal(s, Stack{{If, -2}, {Begin, -1}, {While, 0}, {Do, 1}, {If, 2}}) {
		t.Error(s)
	}
	for _, k := range []Kind{Begin, While, Do, -1, 4, math.MaxInt} {
		if at, e := s.Close(k); at != 0 || e != api.Control || len(s) != 5 {
			t.Error(k, at, e, s)
		}
	}
	for i, k := range []Kind{If, Do, While, Begin, If} {
		if at, e := s.Close(k); at != int64(2-i) || e != api.OK {
			t.Error(k, at, e)
		}
	}
	if !s.Closed() || len(s) != 0 {
		t.Error(s)
	}
	if at, e := s.Close(If); at != 0 || e != api.Control {
		t.Error(at, e)
	}
}

func TestOpenRefused(t *testing.T) {
	var s Stack
	for _, k := range []Kind{-1, 4, math.MaxInt, math.MinInt} {
		if e := s.Open(k, 1); e != api.Control || !s.Closed() {
			t.Error(k, e)
		}
	}
	for i := range 100 {
		if e := s.Open(Begin, int64(i)); e != api.OK {
			t.Error(i, e)
		}
	}
	if e := s.Open(Begin, 100); e != api.Control || len(s) != 100 {
		t.Error(e)
	}
	if at, e := s.Close(Begin); at != 99 || e != api.OK {
		t.Error(at, e)
	}
	if e := s.Open(If, 7); e != api.OK || s[99] != (Mark{If, 7}) {
		t.Error(e)
	}
}

func TestNothingBeyondTheLengthIsWritten(t *testing.T) {
	all := []Mark{{If, 1}, {Do, 2}, {Do, 3}}
	s := Stack(all[:1])
	s.Open(Begin, 9)
	s.Close(Begin)
	s.Open(While, 8)
	if !slices.Equal(all, []Mark{{If, 1}, {Do, 2}, {Do, 3}}) || !slices.Equal(s, Stack{{If, 1}, {While, 8}}) {
		t.Error(all, s)
	}
}

func TestNil(t *testing.T) {
	var s *Stack
	if s.Open(If, 1) != api.Control || !s.Closed() {
		t.Error("Open, Closed")
	}
	if at, e := s.Close(If); at != 0 || e != api.Control {
		t.Error(at, e)
	}
}
