package utf

// Scanner takes bytes one by one, and holds those that are no complete item yet.
type Scanner struct {
	held  [mostHeld + 1]byte // and room for the byte that is put to them
	wait  int                // how many of held are held
	count int
}

// New answers a scanner that holds nothing.
func New() *Scanner { return &Scanner{} }

// Put takes c and answers the items that are complete by it.
func (x *Scanner) Put(c byte) []Item {
	x.held[x.wait] = c
	x.count++
	left := string(x.held[:x.wait+1])
	var out []Item
	var n int
	var whole bool
look:
	n, whole = front(left)
	if whole {
		goto tell
	}
	// What is nothing any more is held as well: no byte of it.
	if n == len(left) {
		goto hold
	}
	out = append(out, badByte(x.count-len(left)))
	left = left[1:]
	goto look
tell:
	out = append(out, sequence(left[:n], x.count-len(left)))
	left = left[n:]
	goto look
hold:
	x.wait = copy(x.held[:], left)
	return out
}

// End answers what is held as bad items, and holds nothing behind it.
func (x *Scanner) End() []Item {
	var out []Item
	for from := x.count - x.wait; from < x.count; from++ {
		out = append(out, badByte(from))
	}
	x.wait = 0
	return out
}

// Held answers how many bytes are held.
func (x *Scanner) Held() int { return x.wait }

// Count answers how many bytes were put.
func (x *Scanner) Count() int { return x.count }
