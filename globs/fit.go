package globs

// set is bytes, a bit each.
type set [4]uint64

func (f *set) has(b byte) bool { return f[b/64]>>(b%64)&1 == 1 }

// add puts in the bytes from the first to the last one.
func (f *set) add(first, last byte) {
	for b := int(first); b <= int(last); b++ {
		f[b/64] |= 1 << (b % 64)
	}
}

// turn puts in the bytes that are not in, and takes out those that are.
func (f *set) turn() {
	for i := range f {
		f[i] = ^f[i]
	}
}

// fits is the bytes that an item which is no Star fits.
func fits(it Item) set {
	var out set
	switch it.Kind {
	case One:
		out.add(it.B, it.B)
	case Any:
		out.turn()
	case Group:
		for _, r := range it.Ranges {
			out.add(r[0], r[1])
		}
		if it.Not {
			out.turn()
		}
	}
	return out
}

// rows is what the items fit, cut at the Stars: one row more than there are Stars.
func rows(p []Item) [][]set {
	out := [][]set{nil}
	for _, it := range p {
		if it.Kind == Star {
			out = append(out, nil)
			continue
		}
		last := len(out) - 1
		out[last] = append(out[last], fits(it))
	}
	return out
}

// place is the first place of s, or the last one, at which a row fits; -1, if there is none.
func place(row []set, s string, last bool) int {
	room := len(s) - len(row)
next:
	for n := range room + 1 {
		at := n
		if last {
			at = room - n
		}
		for i := range row {
			if !row[i].has(s[at+i]) {
				continue next
			}
		}
		return at
	}
	return -1
}

// head is how long the shortest (longest) beginning of s is that rows with any bytes between them fit; -1, if there is none.
func head(l [][]set, s string, longest bool) int {
	n := len(l[0])
	if n > len(s) || place(l[0], s[:n], false) < 0 {
		return -1
	}
	// A row that fits as early as it can leaves those behind it all that any other place would.
	for i := 1; i < len(l); i++ {
		at := place(l[i], s[n:], longest && i == len(l)-1)
		if at < 0 {
			return -1
		}
		n += at + len(l[i])
	}
	return n
}

// whole is whether rows with any bytes between them fit all of s.
func whole(l [][]set, s string) bool {
	last := l[len(l)-1]
	rest := len(s) - len(last)
	if rest < 0 || place(last, s[rest:], false) < 0 {
		return false
	}
	if len(l) == 1 {
		return rest == 0
	}
	return head(l[:len(l)-1], s[:rest], false) >= 0
}
