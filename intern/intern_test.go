package intern

import (
	"hash/fnv"
	"math"
	"strings"
	"testing"

	"shed/api"
)

var names = []string{"", "a", "A", "draw", "Draw", "DRAW", "aZ09@[`{", "\x00", "\xc3\x84", "Ä", "\u017f", "\u212a", strings.Repeat("Xy", 20), "\xff\x80Q"}

func TestLower(t *testing.T) {
	for name, want := range map[string]string{
		"": "", "Draw": "draw", "AMZ": "amz", "amz": "amz", "@[`{": "@[`{", "Ä": "Ä", "\xc1\xda": "\xc1\xda", "\u212a": "\u212a", "A\x00B\xff": "a\x00b\xff", "->": "->",
	} {
		if s := Lower(name); s != want {
			t.Errorf("Lower(%q): %q", name, s)
		}
	}
}

func TestHash(t *testing.T) {
	if Hash("") != 2166136261 {
		t.Error(Hash(""))
	}
	for _, name := range names {
		h := fnv.New32a()
		h.Write([]byte(name))
		if Hash(name) != h.Sum32() {
			t.Errorf("Hash(%q): %d", name, Hash(name))
		}
	}
	if Hash("a") == Hash("A") {
		t.Error("the hash is of the bytes as they are")
	}
}

func TestOf(t *testing.T) {
	for _, name := range names {
		low := Lower(name)
		if k := Of(name); k != (Key{Hash: Hash(low), Len: len(low), Name: low}) {
			t.Errorf("Of(%q): %v", name, k)
		}
	}
	if Of("Draw") != Of("dRAW") || Of("draw") == Of("drew") {
		t.Error("equal names have equal keys")
	}
}

func TestPut(t *testing.T) {
	n := New(3)
	long := strings.Repeat("x", 31)
	for _, c := range []struct {
		name string
		id   int64
		want api.Code
	}{
		{"Draw", 1, api.OK}, {"draw", 1, api.OK}, {"DRAW", 1, api.OK}, {"", 0, api.NoName}, {long + "x", 0, api.NoName},
		{long, 2, api.OK}, {strings.ToUpper(long), 2, api.OK}, {"c", 3, api.OK},
		{"d", 0, api.TableFull}, {"", 0, api.NoName}, {long + "x", 0, api.NoName}, {"C", 3, api.OK}, {"Draw", 1, api.OK},
	} {
		if id, e := n.Put(c.name); id != c.id || e != c.want {
			t.Errorf("Put(%q): %d, %d", c.name, id, e)
		}
	}
	if n.Len() != 3 {
		t.Error(n.Len())
	}
	for name, want := range map[string]int64{"draw": 1, "DrAw": 1, long: 2, "c": 3, "d": 0, "": 0, "x": 0} {
		if id := n.Find(name); id != want {
			t.Errorf("Find(%q): %d", name, id)
		}
	}
	for id, want := range map[int64]string{1: "draw", 2: long, 3: "c", 0: "", 4: "", -1: "", math.MaxInt64: "", math.MinInt64: ""} {
		if name := n.Name(id); name != want {
			t.Errorf("Name(%d): %q", id, name)
		}
	}
}

func TestNoRoom(t *testing.T) {
	for _, most := range []int{0, -1, math.MinInt} {
		n := New(most)
		if id, e := n.Put("a"); id != 0 || e != api.TableFull || n.Len() != 0 || n.Find("a") != 0 {
			t.Error(most, id, e)
		}
		if _, e := n.Put(""); e != api.NoName {
			t.Error(e)
		}
	}
}

func TestFindPutsNothing(t *testing.T) {
	n := New(2)
	n.Find("a")
	if id, e := n.Put("b"); id != 1 || e != api.OK || n.Len() != 1 {
		t.Error(id, e)
	}
}

func TestNil(t *testing.T) {
	var n *Names
	if id, e := n.Put("a"); id != 0 || e != api.Argument {
		t.Error(id, e)
	}
	if id, e := n.Put(""); id != 0 || e != api.Argument {
		t.Error(id, e)
	}
	if n.Find("a") != 0 || n.Name(1) != "" || n.Len() != 0 {
		t.Error("Find, Name, Len")
	}
}
