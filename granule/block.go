package granule

import "granule/api"

// maxPointerTag is the greatest tag that a tame pointer can have.
const maxPointerTag = 15

func isTame(p int) bool {
	return p >= 0 && p/api.TagUnit <= maxPointerTag && p%api.TagUnit <= api.MaxAddr
}

// classFor is the first class whose slots hold size bytes, -1 if there is none.
func (h *Heap) classFor(size int) int {
	if size < 1 {
		return -1
	}
	for n := 0; n < len(h.classes); n++ {
		if h.classes[n].bytes >= size {
			return n
		}
	}
	return -1
}

// openSlot is the lowest open slot, -1 if there is none.
func (k *class) openSlot() int {
	for i := 0; i < len(k.slots); i++ {
		if k.slots[i].state != api.Live && k.slots[i].rest == 0 {
			return i
		}
	}
	return -1
}

func (k *class) pickTag(i int, draw int) int {
	last := k.lastTag(i)
	left := k.lastTag(i - 1)
	right := k.lastTag(i + 1)
	return Pick(last, left, right, draw)
}

// wholeGranules is how many bytes the granules have that size bytes need.
func wholeGranules(size int) int {
	return (size + api.Granule - 1) / api.Granule * api.Granule
}

func (h *Heap) clear(begin int, n int) {
	for i := begin; i < begin+n; i++ {
		h.bytes[i] = 0
	}
}

// blockOf tells the class and the slot of the block of a pointer (P7).
func (h *Heap) blockOf(p int) (int, int, api.Errno) {
	if !isTame(p) {
		return 0, 0, api.ErrWild
	}
	addr := p % api.TagUnit
	n, i := h.slotAt(addr)
	if n < 0 || h.classes[n].slotBegin(i) != addr {
		return 0, 0, api.ErrFree
	}
	s := h.classes[n].slots[i]
	if !s.had(p / api.TagUnit) {
		return 0, 0, api.ErrFree
	}
	if s.state == api.Freed {
		return 0, 0, api.ErrTwice
	}
	return n, i, api.OK
}

// freeSlot frees a live slot; the others of its class that rest come one free closer to being open.
func (k *class) freeSlot(i int, rest int, site int) {
	for j := 0; j < len(k.slots); j++ {
		if k.slots[j].rest > 0 {
			k.slots[j].rest--
		}
	}
	k.slots[i].state = api.Freed
	k.slots[i].rest = rest
	k.slots[i].gone = site
}
