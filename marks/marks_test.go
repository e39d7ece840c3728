package marks

import (
	"bytes"
	"math"
	"testing"
)

// There are two flags.
func TestRight(t *testing.T) {
	for flag, want := range map[int]bool{0: true, 1: true, 2: false, -1: false, 8: false, math.MaxInt: false, math.MinInt: false} {
		if Right(flag) != want {
			t.Error(flag)
		}
	}
}

// A flag that is set stays so, and no other one is by that; rows that were there stay as they were.
func TestWith(t *testing.T) {
	rows, have := [][]byte{nil}, map[[2]int]bool{}
	for _, x := range [][2]int{{3, 1}, {0, 0}, {3, 0}, {3, 0}, {1, 1}, {9, 0}} {
		row := rows[len(rows)-1]
		was := bytes.Clone(row)
		rows = append(rows, With(row, x[0], x[1]))
		have[x] = true
		if !bytes.Equal(row, was) {
			t.Error(x, row, was)
		}
		for place := range 12 {
			for flag := range 2 {
				if Has(rows[len(rows)-1], place, flag) != have[[2]int{place, flag}] {
					t.Error(x, place, flag)
				}
			}
		}
	}
	if len(With(nil, 3, 1)) != 4 {
		t.Error(With(nil, 3, 1))
	}
}
