package walk

import "cmp"

// heap gives the least of what it holds.
type heap[T cmp.Ordered] struct{ items []T }

func (h *heap[T]) empty() bool { return len(h.items) == 0 }

func (h *heap[T]) push(x T) {
	h.items = append(h.items, x)
	for i := len(h.items) - 1; i > 0; {
		up := (i - 1) / 2
		if h.items[up] <= h.items[i] {
			return
		}
		h.swap(i, up)
		i = up
	}
}

func (h *heap[T]) pop() T {
	x, last := h.items[0], len(h.items)-1
	h.swap(0, last)
	h.items = h.items[:last]
	for i := 0; ; {
		least := h.lesser(h.lesser(i, 2*i+1), 2*i+2)
		if least == i {
			return x
		}
		h.swap(i, least)
		i = least
	}
}

// lesser is the place of the lesser one; there need be none at j.
func (h *heap[T]) lesser(i, j int) int {
	if j < len(h.items) && h.items[j] < h.items[i] {
		return j
	}
	return i
}

func (h *heap[T]) swap(i, j int) { h.items[i], h.items[j] = h.items[j], h.items[i] }
