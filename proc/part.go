package proc

import "whelk/api"

// part is what goes back by itself: an fd's handle (0 if it is not open), the directory's node, or the mask.
type part struct {
	value int
	noted int // how many marks were open when it was noted last what this goes back to
}

// change gives a part a value, which comes with its ref or hold; free gives up one of a value. To be given what it has is a change like any other: it is set, so it is noted.
func (p *Proc) change(x *part, value int, free func(value int)) api.Errno {
	was, marks := *x, p.log.Marks()
	if was.noted == marks {
		x.value = value
		free(was.value)
		return api.OK
	}
	// What it had at the mark keeps its ref or hold: the note gives it back with it.
	e := p.log.Note(func() {
		now := x.value
		*x = was
		free(now)
	})
	if e != api.OK {
		free(value)
		return e
	}
	*x = part{value: value, noted: marks}
	return api.OK
}
