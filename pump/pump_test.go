package pump

import (
	"math"
	"runtime"
	"slices"
	"strings"
	"testing"
	"time"

	"shed/api"
	"shed/run"
	"shed/vm"
)

var plain = vm.Config{Dict: 8192, Data: 16, Return: 16, Heap: 256, Slots: 4}

func made(t *testing.T, s run.Script) *Pump {
	t.Helper()
	p, e := New(s)
	if e != api.OK || p == nil {
		t.Fatal(e)
	}
	t.Cleanup(p.Stop)
	return p
}

func is(t *testing.T, p *Pump, line string, want Told) {
	t.Helper()
	if told, ok := p.Send(line); told != want || !ok {
		t.Errorf("%s: %v, %v; want %v", line, told, ok, want)
	}
}

func TestSend(t *testing.T) {
	p := made(t, run.Script{Config: plain, Text: "1 . : f 2 . ; nothing", In: "ab", Fuel: 100})
	is(t, p, "1 .", Told{1, api.OK, "1 "})
	is(t, p, "2 .", Told{2, api.OK, "2 "})
	is(t, p, "f f", Told{3, api.OK, "2 2 "})
	is(t, p, "", Told{4, api.OK, ""})
	is(t, p, "5 none", Told{5, api.Undefined, "?-13\n"})
	is(t, p, "key . depth .", Told{6, api.OK, "97 0 "})
	is(t, p, ": g", Told{7, api.OK, ""})
	is(t, p, "7 . ;\ng", Told{8, api.OK, "7 "})
	is(t, p, "class a - method m 9 endm endclass a new -> m .", Told{9, api.OK, "9 "})
	is(t, p, ": h begin again ; h", Told{10, api.Fuel, "?-2053\n"})
	is(t, p, "1", Told{11, api.Fuel, "?-2053\n"})
	is(t, p, " ", Told{12, api.OK, ""})
}

func TestOver(t *testing.T) {
	p := made(t, run.Script{Config: plain, Fuel: 100})
	is(t, p, "1 . bye 2 .", Told{1, api.OK, "1 "})
	is(t, p, "3 .", Told{2, api.OK, ""})
}

func TestOutputFull(t *testing.T) {
	p := made(t, run.Script{Config: plain, Text: "5 .", Fuel: 1 << 20})
	told, ok := p.Send(": f 70000 0 do 120 emit loop ; f")
	if !ok || len(told.Out) != vm.MostOut-2 {
		t.Error(len(told.Out), ok)
	}
	is(t, p, "1 .", Told{2, api.OK, ""})
}

func TestStop(t *testing.T) {
	p := made(t, run.Script{Config: plain, Fuel: 100})
	is(t, p, "1 .", Told{1, api.OK, "1 "})
	for range 3 {
		p.Stop()
		select {
		case <-p.ended:
		default:
			t.Error("its goroutine hasn't ended")
		}
		if told, ok := p.Send("2 ."); told != (Told{}) || ok {
			t.Error(told, ok)
		}
	}
}

func TestNewRefused(t *testing.T) {
	for _, c := range []struct {
		c    vm.Config
		want api.Code
	}{{vm.Config{}, api.Argument}, {vm.Config{Dict: 64, Heap: 64}, api.DictOver}} {
		if p, e := New(run.Script{Config: c.c}); p != nil || e != c.want {
			t.Error(p, e)
		}
		if l, e := Lines(run.Script{Config: c.c}, 5, "1"); len(l) != 0 || e != c.want {
			t.Error(l, e)
		}
	}
}

func TestLines(t *testing.T) {
	s := run.Script{Config: plain, Text: "3", Fuel: 20}
	for _, c := range []struct {
		most  int
		lines []string
		want  []Told
	}{
		{9, []string{"1 .", "2 ."}, []Told{{1, api.OK, "1 "}, {2, api.OK, "2 "}}},
		{9, nil, nil}, {0, []string{"1 ."}, nil}, {-1, []string{"1 ."}, nil}, {math.MinInt, []string{"1 ."}, nil},
		{1, []string{"1 .", "2 ."}, []Told{{1, api.OK, "1 "}}}, {2, []string{"1 .", "2 ."}, []Told{{1, api.OK, "1 "}, {2, api.OK, "2 "}}},
		{9, []string{"none", ". .", "5 ."}, []Told{{1, api.Undefined, "?-13\n"}, {2, api.Under, "?-4\n"}, {3, api.OK, "5 "}}},
		{9, []string{": f begin again ;", "f", "1 ."}, []Told{{1, api.OK, ""}, {2, api.Fuel, "?-2053\n"}}},
		{9, []string{"-2053 throw", "1 ."}, []Told{{1, api.Fuel, "?-2053\n"}}},
		{9, []string{"bye", "1 ."}, []Told{{1, api.OK, ""}, {2, api.OK, ""}}},
	} {
		if l, e := Lines(s, c.most, c.lines...); !slices.Equal(l, c.want) || e != api.OK {
			t.Errorf("%d of %v: %v, %d", c.most, c.lines, l, e)
		}
	}
}

// What a pump tells is what the script's lines do.
func TestAsLines(t *testing.T) {
	s := run.Script{Config: plain, Text: "1 2 . none", In: "abc", Fuel: 200}
	lines := []string{"key .", ": sq dup * ;", "5 sq . none 4", "class a - method f", "none", "depth ."}
	told, _ := Lines(s, len(lines), lines...)
	before := run.Run(s).Out
	for i, r := range run.Lines(s, lines...)[1:] {
		want := Told{Line: i + 1, Code: r.Code, Out: strings.TrimPrefix(r.Out, before)}
		if told[i] != want {
			t.Errorf("%v; want %v", told[i], want)
		}
		before = r.Out
	}
}

func TestNoGoroutineStays(t *testing.T) {
	before := runtime.NumGoroutine()
	for range 50 {
		Lines(run.Script{Config: plain, Fuel: 20}, 5, "1", "2")
		p, _ := New(run.Script{Config: plain, Fuel: 20})
		p.Send("1")
		p.Stop()
	}
	for range 100 {
		if runtime.NumGoroutine() <= before {
			return
		}
		time.Sleep(10 * time.Millisecond)
	}
	t.Error(before, runtime.NumGoroutine())
}

func TestNil(t *testing.T) {
	var p *Pump
	p.Stop()
	if told, ok := p.Send("1"); told != (Told{}) || ok {
		t.Error(told, ok)
	}
	p = &Pump{}
	p.Stop()
	if told, ok := p.Send("1"); told != (Told{}) || ok {
		t.Error(told, ok)
	}
}
