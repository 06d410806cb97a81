// Package rot is layer 1: see shared/doc/01-rot.md.
package rot

// Right is a word whose bits go round by some.
func Right(x uint32, n int) uint32 {
	// The five lowest bits are n modulo 32 also where n is below 0.
	by := uint32(n) & 31
	return x>>by | x<<(32-by)
}

// Word is the word of four bytes from a place on, Four are the bytes of a word; Long are the eight of a long one.
func Word(b []byte, at int) (uint32, bool) {
	// at+4 might wrap around, the difference can't once at is from 0 on.
	if at < 0 || len(b)-at < 4 {
		return 0, false
	}
	four := [4]byte(b[at : at+4])
	return uint32(four[0])<<24 | uint32(four[1])<<16 | uint32(four[2])<<8 | uint32(four[3]), true
}

func Four(x uint32) [4]byte {
	return [4]byte{byte(x >> 24), byte(x >> 16), byte(x >> 8), byte(x)}
}

func Long(x uint64) [8]byte {
	high, low := Four(uint32(x>>32)), Four(uint32(x))
	return [8]byte{high[0], high[1], high[2], high[3], low[0], low[1], low[2], low[3]}
}

// Pick takes bits of two words by a third one, Most has those that two of three have at least.
func Pick(by, a, b uint32) uint32 { return by&a | ^by&b }

func Most(a, b, c uint32) uint32 { return a&b | a&c | b&c }
