// Package seen keeps vectors of numbers in the order in which they came, each once.
package seen

import (
	"iter"
	"strconv"
)

// List is vectors, told apart by a map of their texts.
type List struct {
	rows  [][]int
	texts map[string]bool
}

// text is a vector as a text.
func text(v []int) string {
	b := make([]byte, 0, 8*len(v))
	for _, n := range v {
		b = append(strconv.AppendInt(b, int64(n), 10), ' ')
	}
	return string(b)
}

// Add puts a vector behind the others, if it isn't there; the vector is kept.
func (l *List) Add(v []int) bool {
	k := text(v)
	if l.texts[k] {
		return false
	}
	if l.texts == nil {
		l.texts = map[string]bool{}
	}
	l.texts[k] = true
	l.rows = append(l.rows, v)
	return true
}

// Many is how many vectors there are.
func (l *List) Many() int { return len(l.rows) }

// Rows are the vectors.
func (l *List) Rows() [][]int { return l.rows }

// All goes through the vectors, through those, too, that come while it goes.
func (l *List) All() iter.Seq[[]int] {
	return func(yield func([]int) bool) {
		for i := 0; i < len(l.rows); i++ {
			if !yield(l.rows[i]) {
				return
			}
		}
	}
}
