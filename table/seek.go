package table

import (
	"bytes"
	"math/bits"

	"scrutiny/api"
	"scrutiny/mix"
)

// Slot is a row of records, one for each key, and none is ever written over, so that older tables may share it. A key's
// record tells of each beginning of its hash the latest key ahead of it that has this beginning, and the other bit
// behind it: so from the last record on each key is found, by a way that is about as long as the number of keys has
// digits.
//
// A record stands at the place of its last number. It is, from the end: the key's place, its hash, how many records it
// tells, and these (0: none).
const (
	fromPlace = iota
	fromHash
	fromMany
	fromTold
)

// hashBits is how many bits a hash has; keys of the same hash are told behind them all.
const hashBits = 64

// spot is where a search ended.
type spot struct {
	at   int
	here bool
}

// place is the place of the key that was found, or 0.
func (s spot) place() int { return s.at }

// found: was the key found?
func (s spot) found() bool { return s.here }

// trail is what a search leaves behind it: where it ended, and what the key's record has to tell.
type trail struct {
	spot
	hash uint64
	many int
	told [hashBits + 1]int
}

// seek goes from record to record, up to the key's, or to where it would be.
func seek(t api.Table, key []byte) trail {
	w := trail{hash: mix.Hash(key, 0)}
	r := len(t.Slot) - 1
again:
	if r <= 0 {
		return w
	}
	alike := bits.LeadingZeros64(w.hash ^ uint64(t.Slot[r-fromHash]))
	at := t.Slot[r-fromPlace]
	if alike == hashBits && bytes.Equal(t.Keys[at], key) {
		w.spot = spot{at: at, here: true}
		return w
	}
	w.pass(t.Slot, r, alike)
	r = told(t.Slot, r, alike)
	goto again
}

// told is the record that the record r tells of a beginning of so many bits, or 0.
func told(slot []int, r, long int) int {
	if long >= slot[r-fromMany] {
		return 0
	}
	return slot[r-fromTold-long]
}

// pass takes what the record r tells of beginnings up to those that it has alike with the key.
func (w *trail) pass(slot []int, r, alike int) {
	// Behind the first one of the same hash, all others are older: they are told by it.
	if alike < w.many {
		return
	}
	for long := w.many; long < alike; long++ {
		w.told[long] = told(slot, r, long)
	}
	w.told[alike] = r
	w.many = alike + 1
}

// size is how many numbers the key's record has.
func (w *trail) size() int { return w.many + fromTold }

// record lays the key's record behind the others.
func (w *trail) record(slot []int, place int) []int {
	for long := w.many - 1; long >= 0; long-- {
		slot = append(slot, w.told[long])
	}
	return append(slot, w.many, int(w.hash), place)
}
