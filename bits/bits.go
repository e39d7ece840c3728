// Package bits is layer 1: see shared/doc/01-bits.md.
package bits

import (
	"bytes"
	"iter"
	mathbits "math/bits"

	"scrutiny/api"
)

// widest is how many bits a number has at most.
const widest = 64

// page is bytes that are filled bit by bit.
type page struct {
	b []byte
	n int
}

// lay puts a bit behind those that are there.
func (p *page) lay(bit uint64) {
	if p.n%8 == 0 {
		p.b = append(p.b, 0)
	}
	p.b[p.n/8] |= byte(bit << (7 - p.n%8))
	p.n++
}

// told is what is on the page.
func (p *page) told() api.Bits { return api.Bits{B: p.b, N: p.n} }

// pen lays more than one bit at a time on the page that it has.
type pen struct{ page }

// behind is a pen that goes on behind bits, on a page of its own: those bits stay as they are.
func behind(w api.Bits) *pen { return &pen{page{b: bytes.Clone(w.B), n: w.N}} }

// all lays bits in order.
func (p *pen) all(row iter.Seq[uint64]) {
	for bit := range row {
		p.lay(bit)
	}
}

// digits are the lowest bits of a number, wide of them, the highest one first.
func digits(n uint64, wide int) iter.Seq[uint64] {
	return func(yield func(uint64) bool) {
		for k := wide - 1; k >= 0; k-- {
			if !yield(n >> k & 1) {
				return
			}
		}
	}
}

// stretch is wide bits, from the place at on.
func stretch(w api.Bits, at, wide int) iter.Seq[uint64] {
	return func(yield func(uint64) bool) {
		for k := at; k < at+wide; k++ {
			if !yield(uint64(w.B[k/8]>>(7-k%8)) & 1) {
				return
			}
		}
	}
}

// Right: are bits right?
func Right(w api.Bits) bool {
	// Bytes are counted by division, since N may be so great that N + 7 goes round.
	rest := w.N % 8
	if w.N < 0 || len(w.B) != w.N/8+min(rest, 1) {
		return false
	}
	return rest == 0 || w.B[len(w.B)-1]<<rest == 0
}

// Same: are both the same?
func Same(a, b api.Bits) bool { return a.N == b.N && bytes.Equal(a.B, b.B) }

// Wide is how many bits a number has.
func Wide(n uint64) int { return mathbits.Len64(n) }

// Put is bits with a number more.
func Put(w api.Bits, n uint64, wide int) (api.Bits, api.Errno) {
	if wide < 0 || wide > widest {
		return w, api.ErrArg
	}
	if Wide(n) > wide {
		return w, api.ErrRange
	}
	p := behind(w)
	p.all(digits(n, wide))
	return p.told(), api.OK
}

// Take is a number of bits.
func Take(w api.Bits, at, wide int) (uint64, api.Errno) {
	if wide < 0 || wide > widest {
		return 0, api.ErrArg
	}
	if at < 0 || at > w.N || w.N-at < wide {
		return 0, api.ErrNone
	}
	n := uint64(0)
	for bit := range stretch(w, at, wide) {
		n = n<<1 | bit
	}
	return n, api.OK
}

// Join is bits, and others behind them.
func Join(a, b api.Bits) api.Bits {
	p := behind(a)
	p.all(stretch(b, 0, b.N))
	return p.told()
}
