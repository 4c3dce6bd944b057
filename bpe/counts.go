package bpe

// counts tells how many places stand ahead of one without going along them, which would take a long text's steps too long:
// the entry i counts those that stand among the places below i, as many of them back as i's lowest bit says.
type counts []int

// newCounts answers the counts of n places, which all stand.
func newCounts(n int) counts {
	c := make(counts, n+1)
	for i := range c {
		c[i] = lowestBit(i)
	}
	return c
}

// cut counts the place at no more, which stands.
func (c counts) cut(at int) {
	for i := at + 1; i < len(c); i += lowestBit(i) {
		c[i]--
	}
}

// ahead answers how many places below at stand.
func (c counts) ahead(at int) int {
	n := 0
	for i := at; i > 0; i -= lowestBit(i) {
		n += c[i]
	}
	return n
}

// lowestBit answers the lowest bit that is set in i, 0 of 0.
func lowestBit(i int) int { return i & -i }
