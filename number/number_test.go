package number

import (
	"math"
	"strconv"
	"strings"
	"testing"
)

func TestRight(t *testing.T) {
	for base := int64(-3); base < 40; base++ {
		if Right(base) != (base >= 2 && base <= 36) {
			t.Errorf("Right(%d)", base)
		}
	}
	if Right(math.MaxInt64) || Right(math.MinInt64) {
		t.Error("Right of a great base")
	}
}

func TestParse(t *testing.T) {
	for _, c := range []struct {
		s    string
		base int64
		want int64
	}{
		{"0", 10, 0}, {"12", 10, 12}, {"-12", 10, -12}, {"007", 10, 7}, {"-0", 10, 0},
		{"$-1F", 10, -31}, {"$ff", 10, 255}, {"$FF", 2, 255}, {"#12", 16, 12}, {"#-12", 16, -12},
		{"%101", 10, 5}, {"%-101", 36, -5}, {"1F", 16, 31}, {"-1f", 16, -31},
		{"zZ", 36, 35*36 + 35}, {"aA", 16, 170}, {"101", 2, 5}, {"8", 9, 8}, {"222", 3, 26},
		{"'a'", 10, 97}, {"'''", 10, 39}, {"' '", 10, 32}, {"'\x00'", 10, 0}, {"'\xff'", 10, 255}, {"'-'", 2, 45},
		{"9223372036854775807", 10, math.MaxInt64}, {"9223372036854775808", 10, math.MinInt64},
		{"-9223372036854775808", 10, math.MinInt64}, {"-9223372036854775809", 10, math.MaxInt64},
		{"18446744073709551615", 10, -1}, {"18446744073709551616", 10, 0}, {"-18446744073709551617", 10, -1},
		{"$FFFFFFFFFFFFFFFF", 10, -1}, {"$-FFFFFFFFFFFFFFFF", 10, 1}, {"$123456789ABCDEF0123456789", 10, -0x543210FEDCBA9877},
	} {
		if n, ok := Parse(c.s, c.base); n != c.want || !ok {
			t.Errorf("Parse(%q, %d): %d, %v; want %d", c.s, c.base, n, ok, c.want)
		}
	}
}

func TestParseOfNoNumber(t *testing.T) {
	for _, c := range []struct {
		s    string
		base int64
	}{
		{"", 10}, {"-", 10}, {"$", 10}, {"#", 10}, {"%", 10}, {"$-", 10}, {"--1", 10}, {"-$1", 10}, {"$$1", 10}, {"#$1", 10},
		{"+1", 10}, {"1-", 10}, {"1 ", 10}, {" 1", 10}, {"1.0", 10}, {"A", 10}, {"12", 2}, {"%2", 10}, {"#A", 16}, {"$G", 36},
		{"g", 16}, {"z", 35}, {"9", 9}, {"1_0", 10}, {"1\x00", 10}, {"\xb1", 10},
		{"/", 36}, {":", 36}, {"@", 36}, {"[", 36}, {"`", 36}, {"{", 36},
		{"''", 10}, {"'", 10}, {"'ab'", 10}, {"'a", 10}, {"a'", 10}, {"'a'b", 10}, {"-'a'", 10}, {"$'a'", 10},
	} {
		if n, ok := Parse(c.s, c.base); n != 0 || ok {
			t.Errorf("Parse(%q, %d): %d, %v", c.s, c.base, n, ok)
		}
	}
}

func TestParseInAWrongBase(t *testing.T) {
	for _, base := range []int64{-10, 0, 1, 37, math.MaxInt64, math.MinInt64} {
		for _, s := range []string{"0", "1", "-1", "A"} {
			if n, ok := Parse(s, base); n != 0 || ok {
				t.Errorf("Parse(%q, %d): %d, %v", s, base, n, ok)
			}
		}
		for s, want := range map[string]int64{"'a'": 97, "$10": 16, "#10": 10, "%-10": -2} {
			if n, ok := Parse(s, base); n != want || !ok {
				t.Errorf("Parse(%q, %d): %d, %v", s, base, n, ok)
			}
		}
	}
}

func TestUnsignedAndShow(t *testing.T) {
	numbers := []int64{0, 1, -1, 9, 10, 35, 36, -36, 255, -255, math.MaxInt64, math.MinInt64, math.MinInt64 + 1}
	for base := int64(2); base <= 36; base++ {
		for _, n := range numbers {
			if s, want := Show(n, base), strings.ToUpper(strconv.FormatInt(n, int(base))); s != want {
				t.Errorf("Show(%d, %d): %q", n, base, s)
			}
			if s, want := Unsigned(uint64(n), base), strings.ToUpper(strconv.FormatUint(uint64(n), int(base))); s != want {
				t.Errorf("Unsigned(%d, %d): %q", uint64(n), base, s)
			}
			if x, ok := Parse(Show(n, base), base); x != n || !ok {
				t.Errorf("Parse of Show of %d in base %d: %d, %v", n, base, x, ok)
			}
		}
	}
	if s := Show(255, 16); s != "FF" {
		t.Error(s)
	}
}

func TestShowInAWrongBase(t *testing.T) {
	for _, base := range []int64{-10, -1, 0, 1, 37, math.MaxInt64, math.MinInt64} {
		for _, n := range []int64{0, 1, -1, math.MinInt64} {
			if Show(n, base) != "" || Unsigned(uint64(n), base) != "" {
				t.Errorf("%d in base %d", n, base)
			}
		}
	}
}
