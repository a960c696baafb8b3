package refs

import (
	"container/heap"
	"sort"

	"surety/api"
)

// Locals are the places of c's locals, each behind those that it asks for; of several that could be next the first one.
func Locals(c api.Config) ([]int, api.Errno) {
	w := wait(c)
	var l []int
	for w.free.Len() > 0 {
		i := w.next()
		l = append(l, i)
		w.done(local(c.Locals[i]))
	}
	if len(l) < len(c.Locals) {
		return nil, api.ErrCycle
	}
	return l, api.OK
}

// waiting are locals that wait for others, and those that wait for none any more.
type waiting struct {
	// named: what is waited for by the locals of a name.
	named map[api.Ref]*named
	// open: for how many names each local waits.
	open []int
	free first
}

// named are the locals of one name: how many of them aren't done yet, and the places of those that ask for it.
type named struct {
	left   int
	askers []int
}

func wait(c api.Config) *waiting {
	w := &waiting{named: map[api.Ref]*named{}, open: make([]int, len(c.Locals))}
	for _, x := range c.Locals {
		// A name that is none is asked for by nobody.
		if w.named[local(x)] == nil {
			w.named[local(x)] = &named{}
		}
		w.named[local(x)].left++
	}
	for i, x := range c.Locals {
		for _, r := range Of(x.E) {
			if n := w.named[r]; n != nil && r.Name != "" {
				n.askers = append(n.askers, i)
				w.open[i]++
			}
		}
		if w.open[i] == 0 {
			heap.Push(&w.free, i)
		}
	}
	return w
}

// next takes the first of the locals that wait for none.
func (w *waiting) next() int { return heap.Pop(&w.free).(int) }

// done counts a local of a name as done: who waited for that name alone waits no more.
func (w *waiting) done(r api.Ref) {
	n := w.named[r]
	n.left--
	if n.left > 0 {
		return
	}
	for _, i := range n.askers {
		w.open[i]--
		if w.open[i] == 0 {
			heap.Push(&w.free, i)
		}
	}
}

// first is a heap of places, of which the first one comes out first.
type first struct{ sort.IntSlice }

func (f *first) Push(x any) { f.IntSlice = append(f.IntSlice, x.(int)) }

func (f *first) Pop() any {
	end := len(f.IntSlice) - 1
	x := f.IntSlice[end]
	f.IntSlice = f.IntSlice[:end]
	return x
}
