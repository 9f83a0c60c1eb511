package merge

// Heap holds things, and hands out the least.
type Heap[T any] struct {
	less   func(a, b T) bool
	things []T
}

// NewHeap: one without anything.
func NewHeap[T any](less func(a, b T) bool) *Heap[T] { return &Heap[T]{less: less} }

// Push: a thing more.
func (h *Heap[T]) Push(x T) {
	if h == nil {
		return
	}
	h.things = append(h.things, x)
	at := len(h.things) - 1
	for at > 0 {
		above := (at - 1) / 2
		if !h.before(at, above) {
			return
		}
		h.swap(at, above)
		at = above
	}
}

// Pop: the least thing.
func (h *Heap[T]) Pop() (x T, ok bool) {
	if h.Len() == 0 {
		return x, false
	}
	last := len(h.things) - 1
	h.swap(0, last)
	x = h.things[last]
	// What is taken out isn't kept.
	clear(h.things[last:])
	h.things = h.things[:last]
	h.sink()
	return x, true
}

// Len: how many things.
func (h *Heap[T]) Len() int {
	if h == nil {
		return 0
	}
	return len(h.things)
}

// sink brings the first thing down to where none below it is less.
func (h *Heap[T]) sink() {
	at := 0
	for {
		least := at
		for below := 2*at + 1; below <= 2*at+2 && below < len(h.things); below++ {
			if h.before(below, least) {
				least = below
			}
		}
		if least == at {
			return
		}
		h.swap(at, least)
		at = least
	}
}

func (h *Heap[T]) swap(i, k int) { h.things[i], h.things[k] = h.things[k], h.things[i] }

// before: is one place's thing less than another's? Where the function that was handed in is none, or panics, it isn't.
func (h *Heap[T]) before(i, k int) (less bool) {
	defer func() {
		if recover() != nil {
			less = false
		}
	}()
	return h.less(h.things[i], h.things[k])
}
