package granule

import (
	"testing"

	"granule/api"
)

// accessByWords is the error of an access, byte by byte, with the tags that the heap tells.
func accessByWords(h *Heap, p int, n int) api.Errno {
	switch {
	case n < 0 || n > 65536:
		return api.ErrArg
	case n == 0:
		return api.OK
	case p < 0 || p>>56 > 15 || p&(1<<56-1) > 65535:
		return api.ErrWild
	}
	for i := 0; i < n; i++ {
		switch tag := h.Tag(p&65535 + i); {
		case tag == -1:
			return api.ErrMap
		case tag == 15 || tag != p>>56:
			return api.ErrTag
		}
	}
	return api.OK
}

// accessHeap has static memory at 16 to 47; slots of three granules at 64 (live, two granules), 112 (freed), 160 (virgin).
func accessHeap(t *testing.T) *Heap {
	t.Helper()
	h := mustNew(t, api.Conf{Static: 2, Classes: classes(3, 3)})
	wantMalloc(t, h, 32, 0, 1, unit+64, api.OK)
	wantMalloc(t, h, 48, 0, 2, 2*unit+112, api.OK)
	wantFree(t, h, 2*unit+112, 3, api.OK)
	return h
}

func TestP9AccessesEverywhere(t *testing.T) {
	h := accessHeap(t)
	was := copyOf(h)
	for _, tag := range []int{0, 1, 2, 3, 14, 15} {
		for addr := 0; addr <= 240; addr++ {
			for n := -1; n <= 50; n++ {
				p := tag*unit + addr
				if got, want := h.access(p, n), accessByWords(h, p, n); got != want {
					t.Fatalf("an access of %d bytes at %d: %d, want %d", n, p, got, want)
				}
			}
		}
	}
	for _, p := range extremes {
		for _, n := range append([]int{2, 4, 8, 65534, 65537}, extremes...) {
			if got, want := h.access(p, n), accessByWords(h, p, n); got != want {
				t.Fatalf("an access of %d bytes at %d: %d, want %d", n, p, got, want)
			}
		}
	}
	wantUnchanged(t, h, was, "an access")
}

func TestP9TheLengthIsRefusedFirstAndNoBytesMayBeAnywhere(t *testing.T) {
	h := accessHeap(t)
	for _, p := range extremes {
		for _, n := range []int{least, -65536, -1, 65537, unit, most} {
			wantMove(t, h, p, p, n, api.ErrArg)
		}
		wantMove(t, h, p, p, 0, api.OK)
	}
}

func TestP9WildPointers(t *testing.T) {
	h := accessHeap(t)
	for _, p := range []int{least, -unit + 64, -1, 65536, unit + 65536, unit + 1<<55, 2*unit - 1, 16 * unit, 16*unit + 64, 127 * unit, most} {
		for _, width := range []int{1, 2, 4, 8} {
			wantLoad(t, h, p, width, 0, api.ErrWild)
			wantStore(t, h, p, width, 1, api.ErrWild)
		}
		wantMove(t, h, p, 16, 1, api.ErrWild)
		wantMove(t, h, 16, p, 1, api.ErrWild)
	}
}

func TestP9TheFirstGranuleThatIsWrongDecides(t *testing.T) {
	h := accessHeap(t)
	for _, c := range []struct {
		p, n int
		want api.Errno
	}{
		{16, 32, api.OK},
		{16, 33, api.ErrMap},
		{47, 1, api.OK},
		{47, 2, api.ErrMap},
		{15, 1, api.ErrMap},
		{15, 2, api.ErrMap},
		{0, 8, api.ErrMap},
		{48, 1, api.ErrMap},
		{unit + 16, 8, api.ErrTag},
		{unit + 47, 2, api.ErrTag},
		{unit + 63, 2, api.ErrMap},
		{unit + 64, 32, api.OK},
		{unit + 64, 33, api.ErrTag},
		{unit + 95, 1, api.OK},
		{unit + 95, 2, api.ErrTag},
		{unit + 96, 1, api.ErrTag},
		{unit + 64, 65536, api.ErrTag},
		{64, 1, api.ErrTag},
		{15*unit + 96, 1, api.ErrTag},
		{15*unit + 112, 1, api.ErrTag},
		{2*unit + 112, 1, api.ErrTag},
		{15*unit + 160, 1, api.ErrTag},
		{160, 1, api.ErrTag},
		{15*unit + 207, 2, api.ErrTag},
		{15*unit + 208, 1, api.ErrMap},
		{16, 65536, api.ErrMap},
		{unit + 65535, 1, api.ErrMap},
		{15*unit + 65535, 65536, api.ErrMap},
	} {
		if got := h.access(c.p, c.n); got != c.want {
			t.Errorf("an access of %d bytes at %d: %d, want %d", c.n, c.p, got, c.want)
		}
	}
}

func TestP10TheWidthIsRefusedFirst(t *testing.T) {
	h := accessHeap(t)
	for _, width := range []int{least, -8, -1, 0, 3, 5, 6, 7, 9, 10, 12, 16, 32, 64, 65536, 65537, most} {
		for _, p := range []int{unit + 64, 16, 0, -1, most, 2*unit + 112} {
			wantLoad(t, h, p, width, 0, api.ErrArg)
			wantStore(t, h, p, width, 1, api.ErrArg)
		}
	}
}

func TestP10LoadReadsTheLowestByteFirst(t *testing.T) {
	h := accessHeap(t)
	copy(h.bytes[64:], []byte{0x01, 0x82, 0x03, 0x84, 0x05, 0x86, 0x07, 0x88, 0xFF, 0xFF, 0xFF, 0xFF, 0xFF, 0xFF, 0xFF, 0xFF, 0x7F})
	p := unit + 64
	was := copyOf(h)
	wantLoad(t, h, p, 1, 0x01, api.OK)
	wantLoad(t, h, p+1, 1, 0x82, api.OK)
	wantLoad(t, h, p, 2, 0x8201, api.OK)
	wantLoad(t, h, p, 4, 0x84038201, api.OK)
	wantLoad(t, h, p, 8, -0x77F879FA7BFC7DFF, api.OK)
	wantLoad(t, h, p+8, 1, 255, api.OK)
	wantLoad(t, h, p+8, 2, 65535, api.OK)
	wantLoad(t, h, p+8, 4, 4294967295, api.OK)
	wantLoad(t, h, p+8, 8, -1, api.OK)
	wantLoad(t, h, p+9, 8, most, api.OK)
	wantLoad(t, h, p+24, 8, 0, api.OK)
	wantUnchanged(t, h, was, "Load")
}

func TestP10StoreWritesTheLowestBytesAlone(t *testing.T) {
	for _, width := range []int{1, 2, 4, 8} {
		for _, value := range append([]int{255, 256, 515, 1 << 31, 1 << 32, 0x0123456789ABCDEF}, extremes...) {
			for at := 64; at+width <= 96; at++ {
				h := accessHeap(t)
				for i := range h.bytes {
					h.bytes[i] = 0xA5
				}
				was := copyOf(h)
				wantStore(t, h, unit+at, width, value, api.OK)
				for i := 0; i < width; i++ {
					was.bytes[at+i] = byte(uint64(value) >> (8 * i))
				}
				wantUnchanged(t, h, was, "more than the number: Store")
			}
		}
	}
}

func TestP10WhatWasStoredIsLoaded(t *testing.T) {
	h := accessHeap(t)
	for _, value := range append([]int{127, 128, 255, 256, 32768, 1 << 31, 1<<32 - 1}, extremes...) {
		wantStore(t, h, 17, 8, value, api.OK)
		wantLoad(t, h, 17, 8, value, api.OK)
		wantLoad(t, h, 17, 4, value&(1<<32-1), api.OK)
		wantLoad(t, h, 17, 2, value&65535, api.OK)
		wantLoad(t, h, 17, 1, value&255, api.OK)
	}
}

func TestP10NumbersReachToTheEndOfWhatMayBeTouched(t *testing.T) {
	h := accessHeap(t)
	for _, width := range []int{1, 2, 4, 8} {
		for from := -8; from <= 48; from++ {
			for _, c := range []struct{ p, length int }{{16, 32}, {unit + 64, 32}} {
				p := c.p + from
				_, err := h.Load(p, width)
				stored := h.Store(p, width, -1)
				if inside := from >= 0 && from+width <= c.length; inside != (err == api.OK) || err != stored {
					t.Errorf("width %d at %d: Load %d, Store %d", width, p, err, stored)
				}
			}
		}
	}
}

func TestP11MoveCopiesAsIfAllWereReadFirst(t *testing.T) {
	for from := 16; from < 48; from++ {
		for to := 16; to < 48; to++ {
			for n := 0; from+n <= 48 && to+n <= 48; n++ {
				h := accessHeap(t)
				fill(h, 16, 32)
				was := copyOf(h)
				for i := 0; i < n; i++ {
					was.bytes[to+i] = byte(from + i - 15)
				}
				wantMove(t, h, to, from, n, api.OK)
				wantUnchanged(t, h, was, "another place: Move")
			}
		}
	}
}

func TestP11MoveBetweenStaticMemoryAndABlock(t *testing.T) {
	h := accessHeap(t)
	fill(h, 16, 32)
	was := copyOf(h)
	wantMove(t, h, unit+64, 16, 32, api.OK)
	copy(was.bytes[64:96], was.bytes[16:48])
	wantUnchanged(t, h, was, "another place: Move")
	wantMove(t, h, 16, unit+70, 9, api.OK)
	copy(was.bytes[16:25], was.bytes[70:79])
	wantUnchanged(t, h, was, "another place: Move")
}

func TestP11TheErrorAtFromComesFirst(t *testing.T) {
	h := accessHeap(t)
	was := copyOf(h)
	for _, c := range []struct {
		to, from, n int
		want        api.Errno
	}{
		{-1, 0, 1, api.ErrMap},
		{0, -1, 1, api.ErrWild},
		{0, unit + 16, 1, api.ErrTag},
		{unit + 16, 0, 1, api.ErrMap},
		{16, unit + 64, 33, api.ErrTag},
		{unit + 64, 16, 33, api.ErrMap},
		{unit + 65, 16, 32, api.ErrTag},
		{17, unit + 64, 32, api.ErrMap},
		{2*unit + 112, 16, 1, api.ErrTag},
		{16, 2*unit + 112, 1, api.ErrTag},
		{most, 16, 1, api.ErrWild},
		{-1, -1, -1, api.ErrArg},
		{16, 16, 65537, api.ErrArg},
		{16, 16, 65536, api.ErrMap},
	} {
		wantMove(t, h, c.to, c.from, c.n, c.want)
		wantUnchanged(t, h, was, "a Move with an error")
	}
}
