package handles

import (
	"container/heap"
	"sort"
)

// numbers gives out numbers from 1 on, each time the least one that is not out.
type numbers struct {
	top  int     // the greatest one that was given out
	back leastIn // those up to top that are not out
}

// take gives one out.
func (n *numbers) take() int {
	if n.back.Len() > 0 {
		return heap.Pop(&n.back).(int)
	}
	n.top++
	return n.top
}

// leave takes one back.
func (n *numbers) leave(number int) {
	heap.Push(&n.back, number)
	if n.back.Len() == n.top {
		// None is out: all of them are above the top again.
		*n = numbers{}
	}
}

// leastIn is numbers, of which the least one is at hand: among many handles it need not be looked for.
type leastIn struct{ sort.IntSlice }

// Push is heap's.
func (l *leastIn) Push(number any) { l.IntSlice = append(l.IntSlice, number.(int)) }

// Pop is heap's.
func (l *leastIn) Pop() any {
	last := len(l.IntSlice) - 1
	number := l.IntSlice[last]
	l.IntSlice = l.IntSlice[:last]
	return number
}
