package granule

import (
	"testing"

	"granule/api"
)

func TestP8ReallocOfZeroIsMalloc(t *testing.T) {
	h := mustNew(t, exampleConf())
	twin := mustNew(t, exampleConf())
	for _, c := range [][3]int{{16, 0, 7}, {0, 1, 1}, {33, 1, 1}, {1, 5, 8}, {1, 0, 9}, {17, 27, 3}, {32, 0, 4}, {least, 0, 0}, {most, 0, 0}} {
		want, wantErr := twin.Malloc(c[0], c[1], c[2])
		wantRealloc(t, h, 0, c[0], c[1], c[2], want, wantErr)
		wantUnchanged(t, h, copyOf(twin), "Realloc of 0, unlike Malloc,")
	}
}

func TestP8TheOldBlockIsStillLiveWhileTheNewOneIsGivenOut(t *testing.T) {
	h := mustNew(t, api.Conf{Classes: classes(1, 2)})
	wantMalloc(t, h, 16, 0, 1, unit+32, api.OK)
	// Were the old slot free already, it would be the lowest open one.
	wantRealloc(t, h, unit+32, 16, 0, 2, 2*unit+48, api.OK)
	wantRealloc(t, h, 2*unit+48, 16, 0, 3, 3*unit+32, api.OK)
	wantMalloc(t, h, 16, 0, 4, unit+48, api.OK)
	wantRealloc(t, h, unit+48, 16, 0, 5, 0, api.ErrFull)
	wantUsable(t, h, unit+48, 16, api.OK)
}

func TestP8ARestingSlotIsNotOpenForRealloc(t *testing.T) {
	h := mustNew(t, api.Conf{Rest: 1, Classes: classes(1, 2)})
	wantMalloc(t, h, 16, 0, 1, unit+32, api.OK)
	wantRealloc(t, h, unit+32, 16, 0, 2, 2*unit+48, api.OK)
	wantRealloc(t, h, 2*unit+48, 16, 0, 3, 0, api.ErrFull)
	wantFree(t, h, 2*unit+48, 4, api.OK)
	wantMalloc(t, h, 16, 0, 5, 3*unit+32, api.OK)
}

func TestP8AReallocCountsAsAFreeOfTheOldClass(t *testing.T) {
	h := mustNew(t, api.Conf{Rest: 1, Classes: classes(1, 2, 2, 2)})
	wantMalloc(t, h, 1, 0, 0, unit+32, api.OK)
	wantMalloc(t, h, 1, 0, 0, 2*unit+48, api.OK)
	wantFree(t, h, unit+32, 0, api.OK)
	wantMalloc(t, h, 1, 0, 0, 0, api.ErrFull)
	wantRealloc(t, h, 2*unit+48, 17, 0, 0, unit+80, api.OK)
	wantMalloc(t, h, 1, 0, 0, 3*unit+32, api.OK)
	wantMalloc(t, h, 1, 0, 0, 0, api.ErrFull)
}

func TestP8TheBytesThatBothBlocksHaveAreCopied(t *testing.T) {
	for _, c := range []struct{ old, size, both, block int }{
		{1, 1, 16, 16},
		{16, 17, 16, 32},
		{33, 64, 48, 64},
		{64, 33, 48, 48},
		{48, 20, 32, 32},
		{64, 1, 16, 16},
		{64, 64, 64, 64},
	} {
		h := mustNew(t, api.Conf{Static: 1, Classes: classes(1, 2, 4, 2)})
		p, _ := h.Malloc(c.old, 0, 1)
		for i := range h.bytes {
			h.bytes[i] = 0xA5
		}
		length, _ := h.Usable(p)
		fill(h, p%unit, length)
		was := copyOf(h)
		q, err := h.Realloc(p, c.size, 0, 2)
		if err != api.OK {
			t.Fatalf("Realloc from %d to %d: %d", c.old, c.size, err)
		}
		wantUsable(t, h, q, c.block, api.OK)
		wantBytes(t, h, q%unit, c.block, was.bytes[p%unit:p%unit+c.both]...)
		for i := range h.bytes {
			if (i < q%unit || i >= q%unit+c.block) && h.bytes[i] != was.bytes[i] {
				t.Errorf("Realloc from %d to %d changed the byte at %d", c.old, c.size, i)
			}
		}
	}
}

func TestP8TheErrorsOfRealloc(t *testing.T) {
	h := mustNew(t, exampleConf())
	wantMalloc(t, h, 16, 0, 1, unit+48, api.OK)
	wantMalloc(t, h, 16, 0, 2, 2*unit+64, api.OK)
	wantMalloc(t, h, 32, 0, 3, unit+96, api.OK)
	wantFree(t, h, unit+48, 4, api.OK)
	fill(h, 64, 16)
	was := copyOf(h)
	for _, size := range []int{least, -1, 0, 1, 16, 17, 32, 33, most} {
		// What is wrong with the pointer is told ahead of what is wrong with the size.
		wantRealloc(t, h, -1, size, 0, 9, 0, api.ErrWild)
		wantRealloc(t, h, 2*unit+65536, size, 0, 9, 0, api.ErrWild)
		wantRealloc(t, h, unit+48, size, 0, 9, 0, api.ErrTwice)
		wantRealloc(t, h, 2*unit+65, size, 0, 9, 0, api.ErrFree)
		wantRealloc(t, h, 16, size, 0, 9, 0, api.ErrFree)
		wantRealloc(t, h, 3*unit+64, size, 0, 9, 0, api.ErrFree)
		want := api.ErrFull
		if size < 1 || size > 32 {
			want = api.ErrSize
		}
		wantRealloc(t, h, 2*unit+64, size, 0, 9, 0, want)
		wantRealloc(t, h, unit+96, size, 0, 9, 0, want)
		wantUnchanged(t, h, was, "a Realloc with an error")
	}
}

func TestP8TheSiteIsBothTheNewAllocAndTheOldGone(t *testing.T) {
	h := mustNew(t, exampleConf())
	wantMalloc(t, h, 16, 0, 7, unit+48, api.OK)
	wantRealloc(t, h, unit+48, 17, 0, -8, unit+96, api.OK)
	if s := h.classes[0].slots[0]; s.state != api.Freed || s.alloc != 7 || s.gone != -8 {
		t.Errorf("the old slot is %+v", s)
	}
	if s := h.classes[1].slots[0]; s.state != api.Live || s.alloc != -8 || s.gone != 0 {
		t.Errorf("the new slot is %+v", s)
	}
	wantFree(t, h, unit+48, 9, api.ErrTwice)
}

func TestP8TheDrawDecidesTheNewTag(t *testing.T) {
	h := mustNew(t, api.Conf{Classes: classes(1, 3)})
	wantMalloc(t, h, 1, 4, 0, 5*unit+32, api.OK)
	// The candidates are 1 to 14 without 5, and then without 5 and 6.
	wantRealloc(t, h, 5*unit+32, 1, 4, 0, 6*unit+48, api.OK)
	wantRealloc(t, h, 6*unit+48, 1, 10, 0, 13*unit+32, api.OK)
}

func TestP8UsableIsTheLengthInWholeGranules(t *testing.T) {
	for size := 1; size <= 128; size++ {
		h := mustNew(t, api.Conf{Classes: classes(2, 1, 8, 1)})
		p, _ := h.Malloc(size, 0, 0)
		was := copyOf(h)
		wantUsable(t, h, p, (size+15)/16*16, api.OK)
		wantUnchanged(t, h, was, "Usable")
	}
}

func TestP8TheErrorsOfUsable(t *testing.T) {
	h := mustNew(t, exampleConf())
	wantMalloc(t, h, 16, 0, 0, unit+48, api.OK)
	for _, p := range []int{least, -1, 65536, unit + 65536, 16 * unit, most} {
		wantUsable(t, h, p, 0, api.ErrWild)
	}
	for _, p := range []int{0, 16, 48, 64, unit, unit + 49, 2*unit + 48, unit + 64, 15*unit + 64, 15*unit + 65535} {
		wantUsable(t, h, p, 0, api.ErrFree)
	}
	wantFree(t, h, unit+48, 0, api.OK)
	wantUsable(t, h, unit+48, 0, api.ErrTwice)
}
