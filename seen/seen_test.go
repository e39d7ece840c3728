package seen

import (
	"reflect"
	"testing"
)

// Vectors come once each, in order; those that come meanwhile are gone through, too.
func TestList(t *testing.T) {
	l := List{}
	if l.Many() != 0 || len(l.Rows()) != 0 {
		t.Error("empty")
	}
	want := [][]int{{1, 23}, {12, 3}, {-1, 23}, {}, {123}, {1, 2, 3}}
	for _, v := range want {
		if !l.Add(v) || l.Add(append([]int{}, v...)) {
			t.Error(v)
		}
	}
	if !reflect.DeepEqual(l.Rows(), want) || l.Many() != len(want) {
		t.Error(l.Rows())
	}
	n, grow := 0, List{}
	grow.Add([]int{0})
	for v := range grow.All() {
		grow.Add([]int{(v[0] + 3) % 10})
		n++
	}
	if n != 10 || grow.Many() != 10 {
		t.Error(n, grow.Rows())
	}
	for range grow.All() {
		n++
		break
	}
	if n != 11 {
		t.Error(n)
	}
}
