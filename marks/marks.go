// Package marks keeps two flags for each of many places: bits of one byte a place.
package marks

// The flags, each as its bit of a byte.
const (
	first byte = 1 << iota
	second
)

// bit is a flag's bit; 0, if there is no such flag.
func bit(flag int) byte {
	switch flag {
	case 0:
		return first
	case 1:
		return second
	}
	return 0
}

// Right: is there such a flag?
func Right(flag int) bool { return bit(flag) != 0 }

// Has: is a flag of a place set? Places behind the end of the row have none: so a place that comes needs no byte.
func Has(row []byte, place, flag int) bool {
	return place < len(row) && row[place]&bit(flag) != 0
}

// With is the row with that flag of the place set.
func With(row []byte, place, flag int) []byte {
	if Has(row, place, flag) {
		return row
	}
	out := make([]byte, max(len(row), place+1))
	copy(out, row)
	out[place] |= bit(flag)
	return out
}
