package granule

import "granule/api"

// access is the error of an access of n bytes at p (P9).
func (h *Heap) access(p int, n int) api.Errno {
	_, err := h.decide(p, n)
	return err
}

// decide is the error of an access with the lowest of its addresses in the granule that decided; 0 if none did.
func (h *Heap) decide(p int, n int) (int, api.Errno) {
	if !within(n, 0, api.MaxMove) {
		return 0, api.ErrArg
	}
	if n == 0 {
		return 0, api.OK
	}
	if !isTame(p) {
		return 0, api.ErrWild
	}
	at := p % api.TagUnit
	end := at + n
	for at < end {
		err := h.touch(at, p/api.TagUnit)
		if err != api.OK {
			return at, err
		}
		at = nextGranule(at)
	}
	return 0, api.OK
}

// nextGranule is where the granule behind that of an address begins.
func nextGranule(addr int) int {
	return addr - addr%api.Granule + api.Granule
}

// touch is the error of touching the granule at an address under a pointer's tag.
func (h *Heap) touch(addr int, tag int) api.Errno {
	found := h.Tag(addr)
	if found == api.NoTag {
		return api.ErrMap
	}
	// A pointer may have the tag 15, and yet it may not touch what has it.
	if found == api.Poison || found != tag {
		return api.ErrTag
	}
	return api.OK
}

// accessNumber is the error of reading or writing a number of so many bytes at p (P10).
func (h *Heap) accessNumber(p int, width int) api.Errno {
	if width != 1 && width != 2 && width != 4 && width != 8 {
		return api.ErrArg
	}
	return h.access(p, width)
}

// number reads a number whose bytes are all there.
func (h *Heap) number(addr int, width int) int {
	value := 0
	for i := width - 1; i >= 0; i-- {
		// At the eighth byte its top bit becomes the sign.
		value = value<<8 | int(h.bytes[addr+i])
	}
	return value
}

// setNumber writes a number whose bytes are all there.
func (h *Heap) setNumber(addr int, width int, value int) {
	for i := 0; i < width; i++ {
		h.bytes[addr+i] = byte(value)
		value >>= 8
	}
}

// copyBytes copies n bytes that are all there to n others that are there; they may overlap.
func (h *Heap) copyBytes(to int, from int, n int) {
	copy(h.bytes[to:to+n], h.bytes[from:from+n])
}
