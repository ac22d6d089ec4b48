package tree

// Set is some of the 256 bytes, a bit each.
type Set [4]uint64

// Add puts the bytes from first to last into the set.
func (s *Set) Add(first, last byte) {
	// An int, since a byte would wrap round behind 255 and never be above last.
	for b := int(first); b <= int(last); b++ {
		s[b/64] |= 1 << (b % 64)
	}
}

// Has tells whether the byte is in the set.
func (s *Set) Has(b byte) bool {
	return s[b/64]>>(b%64)&1 == 1
}
