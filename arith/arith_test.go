package arith

import (
	"math"
	"math/big"
	"testing"

	"shed/api"
)

const (
	least = math.MinInt64
	most  = math.MaxInt64
)

var numbers = []int64{0, 1, -1, 2, -2, 3, -3, 7, -7, 8, -8, 9, 63, 64, 65, 255, 1 << 31, -1 << 31, 1 << 32, most, most - 1, least, least + 1}

func TestTwo(t *testing.T) {
	for _, c := range []struct {
		op      string
		a, b, n int64
	}{
		{"+", 2, 3, 5}, {"+", most, 1, least}, {"+", least, -1, most},
		{"-", 2, 3, -1}, {"-", least, 1, most}, {"-", 0, least, least},
		{"*", -4, 3, -12}, {"*", most, 2, -2}, {"*", least, -1, least}, {"*", 1 << 32, 1 << 32, 0},
		{"/", 7, 2, 3}, {"/", -7, 2, -4}, {"/", 7, -2, -4}, {"/", -7, -2, 3}, {"/", -8, 2, -4}, {"/", 1, -2, -1}, {"/", 0, -5, 0},
		{"/", least, -1, least}, {"/", least, 1, least}, {"/", most, least, -1}, {"/", least, most, -2},
		{"mod", 7, 2, 1}, {"mod", -7, 2, 1}, {"mod", 7, -2, -1}, {"mod", -7, -2, -1}, {"mod", -8, 2, 0}, {"mod", 0, -5, 0},
		{"mod", least, -1, 0}, {"mod", most, least, -1}, {"mod", least, most, most - 1},
		{"and", 12, 10, 8}, {"and", -1, 5, 5}, {"or", 12, 10, 14}, {"or", least, 1, least + 1}, {"xor", 12, 10, 6}, {"xor", -1, 5, -6},
		{"lshift", 1, 0, 1}, {"lshift", 1, 3, 8}, {"lshift", 1, 63, least}, {"lshift", 1, 64, 0}, {"lshift", 3, 63, least},
		{"lshift", 1, -1, 0}, {"lshift", -1, least, 0}, {"lshift", 1, 65, 0}, {"lshift", 1, 1 << 32, 0},
		{"rshift", 8, 3, 1}, {"rshift", -1, 0, -1}, {"rshift", -1, 1, most}, {"rshift", -1, 63, 1}, {"rshift", -1, 64, 0},
		{"rshift", -1, -1, 0}, {"rshift", least, 63, 1}, {"rshift", 5, 1 << 32, 0},
		{"=", 2, 2, -1}, {"=", 2, 3, 0}, {"<>", 2, 2, 0}, {"<>", 2, 3, -1},
		{"<", -1, 0, -1}, {"<", 0, 0, 0}, {"<", 1, 0, 0}, {"<", least, most, -1},
		{">", -1, 0, 0}, {">", 0, 0, 0}, {">", 1, 0, -1}, {">", most, least, -1},
		{"u<", 0, -1, -1}, {"u<", -1, 0, 0}, {"u<", 1, 2, -1}, {"u<", 2, 2, 0}, {"u<", most, least, -1},
		{"min", -1, 1, -1}, {"min", 1, -1, -1}, {"max", -1, 1, 1}, {"max", 1, -1, 1}, {"max", 4, 4, 4},
	} {
		if n, e, ok := Two(c.op, c.a, c.b); n != c.n || e != api.OK || !ok {
			t.Errorf("%d %d %s: %d, %d, %v; want %d", c.a, c.b, c.op, n, e, ok, c.n)
		}
	}
}

func TestDivisionByZero(t *testing.T) {
	for _, op := range []string{"/", "mod"} {
		for _, a := range numbers {
			if n, e, ok := Two(op, a, 0); n != 0 || e != api.Zero || !ok {
				t.Errorf("%d 0 %s: %d, %d, %v", a, op, n, e, ok)
			}
		}
	}
}

func TestOne(t *testing.T) {
	for _, c := range []struct {
		op   string
		a, n int64
	}{
		{"negate", 5, -5}, {"negate", -5, 5}, {"negate", 0, 0}, {"negate", least, least},
		{"invert", 0, -1}, {"invert", 5, -6}, {"invert", least, most},
		{"abs", 5, 5}, {"abs", -5, 5}, {"abs", 0, 0}, {"abs", least, least}, {"abs", most, most},
		{"0=", 0, -1}, {"0=", 1, 0}, {"0=", -1, 0}, {"0<", -1, -1}, {"0<", 0, 0}, {"0<", 1, 0}, {"0<", least, -1},
		{"1+", 1, 2}, {"1+", most, least}, {"char+", -1, 0}, {"char+", most, least}, {"1-", 1, 0}, {"1-", least, most},
		{"2*", 3, 6}, {"2*", most, -2}, {"2*", least, 0}, {"2/", 7, 3}, {"2/", -7, -4}, {"2/", -1, -1}, {"2/", least, least / 2},
		{"cells", 3, 24}, {"cells", -1, -8}, {"cells", 1 << 61, 0}, {"cell+", 3, 11}, {"cell+", most, least + 7},
		{"aligned", 0, 0}, {"aligned", 1, 8}, {"aligned", 7, 8}, {"aligned", 8, 8}, {"aligned", 9, 16}, {"aligned", -1, 0},
		{"aligned", -8, -8}, {"aligned", -9, -8}, {"aligned", most, least}, {"aligned", least, least},
	} {
		if n, ok := One(c.op, c.a); n != c.n || !ok {
			t.Errorf("%d %s: %d, %v; want %d", c.a, c.op, n, ok, c.n)
		}
	}
}

func TestNoOperation(t *testing.T) {
	for _, op := range []string{"", "negate", "AND", "Mod", " +", "+ ", "/mod", "1+", "0=", "u>", "<=", "dup"} {
		if n, e, ok := Two(op, 3, 0); n != 0 || e != api.OK || ok {
			t.Errorf("Two(%q): %d, %d, %v", op, n, e, ok)
		}
	}
	for _, op := range []string{"", "+", "mod", "ABS", "0>", "0<>", "2+", "cell", "align", "dup"} {
		if n, ok := One(op, 3); n != 0 || ok {
			t.Errorf("One(%q): %d, %v", op, n, ok)
		}
	}
}

// Of all pairs, the quotient is held against one that is computed without any bound.
func TestDivisionFits(t *testing.T) {
	for _, a := range numbers {
		for _, b := range numbers {
			if b == 0 {
				continue
			}
			q, _, _ := Two("/", a, b)
			r, _, _ := Two("mod", a, b)
			if b*q+r != a {
				t.Errorf("%d and %d: %d, %d", a, b, q, r)
			}
			if r != 0 && ((r < 0) != (b < 0) || absolute(r).Cmp(absolute(b)) >= 0) {
				t.Errorf("%d mod %d: %d", a, b, r)
			}
			floor := new(big.Int).Sub(big.NewInt(a), big.NewInt(r))
			floor.Quo(floor, big.NewInt(b))
			if floor.IsInt64() && floor.Int64() != q {
				t.Errorf("%d / %d: %d", a, b, q)
			}
		}
	}
}

func absolute(n int64) *big.Int {
	return new(big.Int).Abs(big.NewInt(n))
}
