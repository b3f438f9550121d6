package lex_test

import (
	"math"
	"math/big"
	"strings"
	"testing"

	"alembic/lex"
)

// wantFloat is Float by fractions without bounds.
func wantFloat(digits string, point int) uint64 {
	n, _ := new(big.Int).SetString(digits, 10)
	ten := new(big.Int).Exp(big.NewInt(10), big.NewInt(int64(point)), nil)
	d, _ := new(big.Rat).SetFrac(n, ten).Float64()
	return math.Float64bits(d)
}

// P4.1: the nearest double, of few digits and many, the point anywhere.
func TestFloatIsNearest(t *testing.T) {
	all := []string{"0", "00", "1", "5", "10", "000000000000000", "000000000000001", "999999999999999", "100000000000000", "123456789012345", "314159265358979", "900719925474099", "450359962737049"}
	n := uint64(1)
	for range 3000 {
		n = n*6364136223846793005 + 1442695040888963407 // any rule that scatters
		s := big.NewInt(int64(n >> 1)).String()
		all = append(all, s[len(s)-1-int(n>>40%15):])
	}
	for _, s := range all {
		for point := range 16 {
			bits, ok := lex.Float(s, point)
			if want := wantFloat(s, point); !ok || bits != want {
				t.Errorf("Float(%q, %d) is %#x, %v, not %#x", s, point, bits, ok, want)
			}
		}
	}
}

// P4.1: all short numbers.
func TestShortFloats(t *testing.T) {
	for n := range 10000 {
		s := big.NewInt(int64(n)).String()
		for point := range 16 {
			if bits, ok := lex.Float(s, point); !ok || bits != wantFloat(s, point) {
				t.Errorf("Float(%q, %d) is %#x, %v", s, point, bits, ok)
			}
		}
	}
}

// P4.1: rows whose answers are plain.
func TestFloatRows(t *testing.T) {
	for _, x := range []struct {
		digits string
		point  int
		want   float64
	}{
		{"0", 0, 0}, {"0", 15, 0}, {"1", 0, 1}, {"15", 1, 1.5}, {"05", 1, 0.5}, {"5", 1, 0.5}, {"1", 15, 1e-15}, {"7", 3, 0.007}, {"100", 2, 1},
		{"999999999999999", 0, 999999999999999}, {"999999999999999", 15, 0.999999999999999}, {"000000000000010", 1, 1},
	} {
		if bits, ok := lex.Float(x.digits, x.point); !ok || bits != math.Float64bits(x.want) {
			t.Errorf("Float(%q, %d) is %#x, %v, not %v", x.digits, x.point, bits, ok, x.want)
		}
	}
}

// P4.1: what isn't 1 to 15 digits, or 0 to 15 behind the point.
func TestNoFloat(t *testing.T) {
	for _, s := range []string{"", "a", "-1", "+1", "1.5", "1_0", " 1", "1 ", "0x1", "1e3", "1234567890123456", "0000000000000000", strings.Repeat("0", 100), "12345678901234a", "é", "٣", "\xff", "1\x00", "inf", "NaN"} {
		for _, point := range []int{0, 1, 15} {
			if bits, ok := lex.Float(s, point); bits != 0 || ok {
				t.Errorf("Float(%q, %d) is %#x, %v", s, point, bits, ok)
			}
		}
	}
	for _, point := range []int{-1, 16, 17, 100, math.MaxInt, math.MinInt} {
		for _, s := range []string{"1", "0", "123456789012345"} {
			if bits, ok := lex.Float(s, point); bits != 0 || ok {
				t.Errorf("Float(%q, %d) is %#x, %v", s, point, bits, ok)
			}
		}
	}
}
