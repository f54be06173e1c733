package granule

import (
	"reflect"
	"testing"

	"granule/api"
)

func TestP1NoCallPanicsAtAnyNumber(t *testing.T) {
	h := mustNew(t, api.Conf{Static: 2, Rest: 2, Classes: classes(1, 3, 3, 2)})
	for _, a := range extremes {
		h.Tag(a)
		h.Free(a, a)
		h.Usable(a)
		h.Blame(a)
		for _, b := range extremes {
			h.Malloc(a, b, a)
			h.Realloc(a, b, a, b)
			h.Load(a, b)
			h.Store(a, b, a)
			h.Explain(a, b)
			for _, n := range extremes {
				h.Move(a, b, n)
			}
			New(api.Conf{Static: a, Rest: b, Classes: classes(1, 1)})
			New(api.Conf{Classes: classes(a, b)})
			New(api.Conf{Classes: classes(1, 1, a, b)})
			for _, d := range extremes {
				if tag := Pick(a, b, a, d); tag < 1 || tag > api.TopTag {
					t.Errorf("Pick(%d, %d, %d, %d) = %d", a, b, a, d, tag)
				}
			}
		}
	}
	for n := 0; n < 300; n++ {
		New(api.Conf{Classes: make([]api.Class, n)})
	}
}

func TestP1AnErrorChangesNothing(t *testing.T) {
	h := mustNew(t, exampleConf())
	wantMalloc(t, h, 16, 0, 1, unit+48, api.OK)
	wantMalloc(t, h, 16, 0, 2, 2*unit+64, api.OK)
	wantMalloc(t, h, 32, 0, 3, unit+96, api.OK)
	wantFree(t, h, unit+48, 4, api.OK)
	h.bytes[48], h.bytes[64], h.bytes[100] = 7, 8, 9
	was := copyOf(h)
	for _, size := range extremes {
		if size >= 1 && size <= 32 {
			wantMalloc(t, h, size, 5, 99, 0, api.ErrFull)
		} else {
			wantMalloc(t, h, size, 5, 99, 0, api.ErrSize)
		}
		wantUnchanged(t, h, was, "a Malloc with an error")
	}
	for _, p := range []int{-1, most, 16 * unit, unit + 65536, unit + 48, 2*unit + 48, unit + 64, 2*unit + 65, 16, 48, unit + 112} {
		if err := h.Free(p, 99); err == api.OK {
			t.Fatalf("Free(%d) = OK", p)
		}
		wantUnchanged(t, h, was, "a Free with an error")
		if q, err := h.Realloc(p, 16, 5, 99); q != 0 || err == api.OK {
			t.Fatalf("Realloc(%d) = %d, %d", p, q, err)
		}
		wantUnchanged(t, h, was, "a Realloc with an error")
		if n, err := h.Usable(p); n != 0 || err == api.OK {
			t.Fatalf("Usable(%d) = %d, %d", p, n, err)
		}
		wantUnchanged(t, h, was, "a Usable with an error")
	}
}

func TestP1ARefusedStoreOrMoveWritesNothing(t *testing.T) {
	h := mustNew(t, api.Conf{Static: 1, Classes: classes(1, 2, 3, 1)})
	wantMalloc(t, h, 16, 0, 1, unit+48, api.OK)
	wantMalloc(t, h, 17, 0, 2, unit+96, api.OK)
	fill(h, 16, 16)
	was := copyOf(h)
	for _, at := range []int{unit + 48 + 9, unit + 48 + 15, unit + 96 + 25, 25, 31} {
		for _, width := range []int{8, 9, 3} {
			if err := h.Store(at, width, -1); err == api.OK {
				t.Fatalf("Store(%d, %d) = OK", at, width)
			}
			wantUnchanged(t, h, was, "a Store with an error")
			if v, err := h.Load(at, width); v != 0 || err == api.OK {
				t.Fatalf("Load(%d, %d) = %d, %d", at, width, v, err)
			}
		}
		for _, n := range []int{8, 16, 17, -1, api.MaxMove, api.MaxMove + 1} {
			if err := h.Move(at, 16, n); err == api.OK {
				t.Fatalf("Move(%d, 16, %d) = OK", at, n)
			}
			if err := h.Move(16, at, n); err == api.OK {
				t.Fatalf("Move(16, %d, %d) = OK", at, n)
			}
			wantUnchanged(t, h, was, "a Move with an error")
		}
	}
}

func TestP1TheSizeIsRefusedAheadOfAFullClass(t *testing.T) {
	h := mustNew(t, api.Conf{Classes: classes(1, 1)})
	wantMalloc(t, h, 1, 0, 0, unit+32, api.OK)
	wantMalloc(t, h, 17, 0, 0, 0, api.ErrSize)
	wantMalloc(t, h, 0, 0, 0, 0, api.ErrSize)
	wantMalloc(t, h, 16, 0, 0, 0, api.ErrFull)
}

func TestP2NewKeepsNothingOfTheConfiguration(t *testing.T) {
	spare := classes(1, 2, 2, 1, 5, 9)
	c := api.Conf{Static: 1, Rest: 1, Classes: spare[:2]}
	h := mustNew(t, c)
	if !reflect.DeepEqual(spare, classes(1, 2, 2, 1, 5, 9)) {
		t.Errorf("New wrote into the classes: %v", spare)
	}
	was := copyOf(h)
	spare[0] = api.Class{Granules: 8, Slots: 16}
	spare[1] = api.Class{}
	wantUnchanged(t, h, was, "writing into the configuration")
	wantMalloc(t, h, 16, 0, 0, unit+48, api.OK)
	wantMalloc(t, h, 17, 0, 0, unit+96, api.OK)
	wantMalloc(t, h, 33, 0, 0, 0, api.ErrSize)
}

func TestP2HeapsHaveNothingInCommon(t *testing.T) {
	c := exampleConf()
	first := mustNew(t, c)
	second := mustNew(t, c)
	was := copyOf(second)
	wantMalloc(t, first, 16, 3, 1, 4*unit+48, api.OK)
	wantMalloc(t, first, 32, 3, 2, 4*unit+96, api.OK)
	wantFree(t, first, 4*unit+48, 3, api.OK)
	first.bytes[100] = 1
	wantUnchanged(t, second, was, "a call on another heap")
	wantMalloc(t, second, 16, 0, 1, unit+48, api.OK)
	wantFree(t, first, unit+48, 4, api.ErrFree)
}

func TestP3ValidConfigurations(t *testing.T) {
	for _, c := range []api.Conf{
		exampleConf(),
		{Classes: classes(1, 1)},
		{Static: 16, Rest: 16, Classes: classes(8, 16)},
		{Static: 16, Rest: 16, Classes: classes(5, 16, 6, 16, 7, 16, 8, 16)},
		{Classes: classes(1, 16, 2, 1, 3, 16, 8, 1)},
	} {
		h := mustNew(t, c)
		for n, k := range h.classes {
			for i, s := range k.slots {
				if s != (slot{state: api.Virgin}) {
					t.Errorf("New(%+v): slot %d of class %d is %+v, want a virgin one", c, i, n, s)
				}
			}
		}
		for addr, b := range h.bytes {
			if b != 0 {
				t.Errorf("New(%+v): the byte at %d is %d", c, addr, b)
			}
		}
	}
}

func TestP3ConfigurationsThatAreNone(t *testing.T) {
	bad := []api.Conf{
		{},
		{Classes: []api.Class{}},
		{Classes: classes(1, 1, 2, 1, 3, 1, 4, 1, 5, 1)},
		{Classes: classes(1, 1, 1, 1)},
		{Classes: classes(2, 1, 1, 1)},
		{Classes: classes(1, 1, 4, 1, 4, 1)},
		{Classes: classes(1, 1, 4, 1, 3, 1)},
		{Classes: classes(7, 1, 8, 1, 9, 1)},
		{Classes: classes(1, 1, 2, 1, 3, 1, 4, 0)},
		{Classes: classes(1, 17, 2, 1)},
	}
	for _, n := range []int{least, -1, 17, most} {
		bad = append(bad, api.Conf{Static: n, Classes: classes(1, 1)})
		bad = append(bad, api.Conf{Rest: n, Classes: classes(1, 1)})
	}
	for _, n := range []int{least, -1, 0, 9, most} {
		bad = append(bad, api.Conf{Classes: classes(n, 1)})
	}
	for _, n := range []int{least, -1, 0, 17, most} {
		bad = append(bad, api.Conf{Classes: classes(1, n)})
	}
	for _, c := range bad {
		if h, err := New(c); h != nil || err != api.ErrConf {
			t.Errorf("New(%+v) = %v, %d, want nil, ErrConf", c, h, err)
		}
	}
}

// freshTags lists the tags of a fresh heap, one for each granule, by the words of the document.
func freshTags(c api.Conf) []int {
	tags := []int{api.NoTag}
	for i := 0; i < c.Static; i++ {
		tags = append(tags, 0)
	}
	tags = append(tags, api.NoTag)
	for _, k := range c.Classes {
		for i := 0; i < k.Slots*k.Granules; i++ {
			tags = append(tags, api.Poison)
		}
		tags = append(tags, api.NoTag)
	}
	return tags
}

func TestP4TagsOfAFreshHeap(t *testing.T) {
	for _, c := range []api.Conf{
		exampleConf(),
		{Classes: classes(1, 1)},
		{Static: 3, Classes: classes(8, 2)},
		{Static: 16, Classes: classes(5, 16, 6, 16, 7, 16, 8, 16)},
		{Static: 1, Classes: classes(1, 3, 3, 1, 4, 2)},
	} {
		h := mustNew(t, c)
		tags := freshTags(c)
		for addr := 0; addr < 16*len(tags); addr++ {
			wantTag(t, h, addr, tags[addr/16])
		}
		for _, addr := range []int{least, least + 16, -65536, -33, -16, -1, 16 * len(tags), 16*len(tags) + 16, 65535, 65536, unit + 48, most} {
			wantTag(t, h, addr, api.NoTag)
		}
	}
}

func TestP4TagsOfABlockAndTheRestOfItsSlot(t *testing.T) {
	h := mustNew(t, api.Conf{Classes: classes(3, 2)})
	wantMalloc(t, h, 17, 4, 0, 5*unit+32, api.OK)
	for addr := 32; addr < 128; addr++ {
		want := api.Poison
		if addr < 64 {
			want = 5
		}
		wantTag(t, h, addr, want)
	}
	wantTag(t, h, 128, api.NoTag)
	wantFree(t, h, 5*unit+32, 0, api.OK)
	for addr := 32; addr < 128; addr++ {
		wantTag(t, h, addr, api.Poison)
	}
}

// pickByWords is Pick as the document words it.
func pickByWords(last int, left int, right int, draw int) int {
	var candidates []int
	for n := 1; n <= 14; n++ {
		if n == last || n == left || n == right {
			continue
		}
		candidates = append(candidates, n)
	}
	d := (draw%12012 + 12012) % 12012
	return candidates[d%len(candidates)]
}

func TestP5PickAtAllTags(t *testing.T) {
	draws := append([]int{2, 3, 5, 7, 10, 11, 12, 13, 14, 143, 6006, 12010, 12011, 12012, 12013, -2, -11, -12011, -12013}, extremes...)
	for last := -1; last <= 16; last++ {
		for left := -1; left <= 16; left++ {
			for right := -1; right <= 16; right++ {
				for _, draw := range draws {
					want := pickByWords(last, left, right, draw)
					if got := Pick(last, left, right, draw); got != want {
						t.Fatalf("Pick(%d, %d, %d, %d) = %d, want %d", last, left, right, draw, got, want)
					}
				}
			}
		}
	}
}

func TestP5PickWorkedOutByHand(t *testing.T) {
	for _, c := range [][5]int{
		{1, 0, 3, 13, 4},
		{0, 0, 0, -1, 14},
		{0, 0, 0, 0, 1},
		{0, 0, 0, 13, 14},
		{0, 0, 0, 14, 1},
		{0, 0, 0, 12011, 14},
		{0, 0, 0, 12012, 1},
		{1, 2, 3, 0, 4},
		{1, 2, 3, 11, 4},
		{4, 4, 4, 3, 5},
		{15, least, most, 2, 3},
		{0, 0, 0, least, 7},
		{0, 0, 0, most, 8},
	} {
		if got := Pick(c[0], c[1], c[2], c[3]); got != c[4] {
			t.Errorf("Pick(%d, %d, %d, %d) = %d, want %d", c[0], c[1], c[2], c[3], got, c[4])
		}
	}
}

func TestP6TheClassIsTheFirstThatIsLongEnough(t *testing.T) {
	c := api.Conf{Classes: classes(1, 1, 3, 1, 4, 1, 8, 1)}
	begins := []int{32, 64, 128, 208}
	for size := 1; size <= 128; size++ {
		n := 0
		for c.Classes[n].Granules*16 < size {
			n++
		}
		h := mustNew(t, c)
		wantMalloc(t, h, size, 0, 0, unit+begins[n], api.OK)
		block := (size + 15) / 16 * 16
		wantTag(t, h, begins[n], 1)
		wantTag(t, h, begins[n]+block-1, 1)
		if block < c.Classes[n].Granules*16 {
			wantTag(t, h, begins[n]+block, api.Poison)
		} else {
			wantTag(t, h, begins[n]+block, api.NoTag)
		}
		wantMalloc(t, h, size, 0, 0, 0, api.ErrFull)
	}
}

func TestP6SizesThatNoClassHas(t *testing.T) {
	h := mustNew(t, api.Conf{Classes: classes(1, 1, 2, 1)})
	for _, size := range []int{least, -16, -1, 0, 33, 34, 48, 128, 65536, unit, most - 14, most} {
		wantMalloc(t, h, size, 0, 0, 0, api.ErrSize)
	}
	wantMalloc(t, h, 32, 0, 0, unit+64, api.OK)
}

func TestP6TheLowestOpenSlotIsTaken(t *testing.T) {
	h := mustNew(t, api.Conf{Classes: classes(2, 4)})
	for i := 0; i < 4; i++ {
		wantMalloc(t, h, 32, 0, 0, (1+i%2)*unit+32+32*i, api.OK)
	}
	wantMalloc(t, h, 32, 0, 0, 0, api.ErrFull)
	wantFree(t, h, 2*unit+32+96, 0, api.OK)
	wantFree(t, h, 2*unit+32+32, 0, api.OK)
	wantMalloc(t, h, 32, 0, 0, 3*unit+32+32, api.OK)
	wantMalloc(t, h, 32, 0, 0, 3*unit+32+96, api.OK)
	wantMalloc(t, h, 32, 0, 0, 0, api.ErrFull)
}

func TestP6TheTagKeepsClearOfItsNeighboursAndItsLast(t *testing.T) {
	h := mustNew(t, api.Conf{Classes: classes(1, 3, 2, 1)})
	wantMalloc(t, h, 1, 4, 0, 5*unit+32, api.OK)
	wantMalloc(t, h, 1, 1, 0, 2*unit+48, api.OK)
	wantMalloc(t, h, 1, 8, 0, 10*unit+64, api.OK)
	wantFree(t, h, 2*unit+48, 0, api.OK)
	// The candidates are 1, 3, 4, 6, 7, 8, 9, 11, 12, 13, 14.
	wantMalloc(t, h, 1, 3, 0, 6*unit+48, api.OK)
	wantFree(t, h, 5*unit+32, 0, api.OK)
	wantFree(t, h, 6*unit+48, 0, api.OK)
	// A freed neighbour counts as well; the first class's last slot is no neighbour of the second class.
	wantMalloc(t, h, 1, 4, 0, 7*unit+32, api.OK)
	wantMalloc(t, h, 17, 9, 0, 10*unit+96, api.OK)
}

func TestP6TheBlockIsClearedAndNothingElse(t *testing.T) {
	h := mustNew(t, api.Conf{Static: 1, Classes: classes(3, 2)})
	for i := range h.bytes {
		h.bytes[i] = 0xA5
	}
	wantMalloc(t, h, 17, 0, 0, unit+48, api.OK)
	for i, b := range h.bytes {
		want := byte(0xA5)
		if i >= 48 && i < 80 {
			want = 0
		}
		if b != want {
			t.Errorf("the byte at %d is %d, want %d", i, b, want)
		}
	}
}

func TestP6P7TheSitesAreKept(t *testing.T) {
	h := mustNew(t, api.Conf{Classes: classes(1, 1)})
	wantMalloc(t, h, 1, 0, least, unit+32, api.OK)
	if s := h.classes[0].slots[0]; s.alloc != least || s.gone != 0 {
		t.Errorf("after Malloc the slot is %+v", s)
	}
	wantFree(t, h, unit+32, most, api.OK)
	if s := h.classes[0].slots[0]; s.alloc != least || s.gone != most || s.state != api.Freed {
		t.Errorf("after Free the slot is %+v", s)
	}
	wantMalloc(t, h, 1, 0, 7, 2*unit+32, api.OK)
	if s := h.classes[0].slots[0]; s.alloc != 7 || s.gone != 0 || s.state != api.Live {
		t.Errorf("after the second Malloc the slot is %+v", s)
	}
}

func TestP7FreeOfZeroDoesNothing(t *testing.T) {
	h := mustNew(t, exampleConf())
	wantMalloc(t, h, 16, 0, 0, unit+48, api.OK)
	wantFree(t, h, unit+48, 0, api.OK)
	was := copyOf(h)
	wantFree(t, h, 0, 5, api.OK)
	wantUnchanged(t, h, was, "Free(0)")
}

func TestP7PointersWithoutABlock(t *testing.T) {
	h := mustNew(t, exampleConf())
	wantMalloc(t, h, 16, 0, 0, unit+48, api.OK)
	for _, p := range []int{least, -unit, -1, 65536, unit + 65536, 2*unit - 1, 16 * unit, 16*unit + 48, 17*unit + 48, 127 * unit, most} {
		wantFree(t, h, p, 0, api.ErrWild)
	}
	// Gaps, static memory, a virgin slot under any tag, a place inside a block, another tag, an address beyond all.
	for _, p := range []int{unit, 16, 32, 64, unit + 64, 15*unit + 64, 96, unit + 49, unit + 63, 48, 2*unit + 48, 15*unit + 48, 65535, unit + 65535, 15*unit + 65535} {
		wantFree(t, h, p, 0, api.ErrFree)
	}
	wantFree(t, h, unit+48, 0, api.OK)
	wantFree(t, h, unit+48, 0, api.ErrTwice)
	wantFree(t, h, 2*unit+48, 0, api.ErrFree)
	wantFree(t, h, 15*unit+48, 0, api.ErrFree)
	wantFree(t, h, 48, 0, api.ErrFree)
	wantFree(t, h, unit+49, 0, api.ErrFree)
}

func TestP7APointerInsideALongSlotIsNoBlock(t *testing.T) {
	h := mustNew(t, api.Conf{Classes: classes(2, 1)})
	wantMalloc(t, h, 32, 0, 0, unit+32, api.OK)
	wantFree(t, h, unit+48, 0, api.ErrFree)
	wantFree(t, h, unit+32, 0, api.OK)
	wantFree(t, h, unit+48, 0, api.ErrFree)
}

// TestP7ASlotRestsThroughRestFrees frees slot 0, and then others one by one until slot 0 is given out again.
func TestP7ASlotRestsThroughRestFrees(t *testing.T) {
	for rest := 0; rest <= api.MaxRest; rest++ {
		h := mustNew(t, api.Conf{Rest: rest, Classes: classes(1, 16, 2, 16)})
		var pointers []int
		for i := 0; i < 16; i++ {
			p, _ := h.Malloc(1, 0, 0)
			pointers = append(pointers, p)
		}
		frees := 0
		for i := 0; i < 16; i++ {
			wantFree(t, h, pointers[i], 0, api.OK)
			// None of these is a free of the class, so none may shorten a rest.
			wantFree(t, h, pointers[i], 0, api.ErrTwice)
			wantFree(t, h, 0, 0, api.OK)
			p, _ := h.Malloc(17, 0, 0)
			wantFree(t, h, p, 0, api.OK)
			if frees < rest {
				wantMalloc(t, h, 1, 0, 0, 0, api.ErrFull)
			} else {
				if p, err := h.Malloc(1, 0, 0); err != api.OK || p%unit != 32 {
					t.Errorf("Rest %d, %d frees: Malloc = %d, %d, want slot 0", rest, frees, p, err)
				}
				break
			}
			frees++
		}
		if want := min(rest, 16); frees != want {
			t.Errorf("Rest %d: slot 0 rested through %d frees", rest, frees)
		}
	}
}

func TestP7AClassRestsForeverWithoutLiveBlocks(t *testing.T) {
	h := mustNew(t, api.Conf{Rest: 16, Classes: classes(1, 16)})
	for i := 0; i < 16; i++ {
		p, err := h.Malloc(1, i, 0)
		if err != api.OK || p%unit != 32+16*i {
			t.Fatalf("Malloc %d = %d, %d", i, p, err)
		}
		wantFree(t, h, p, 0, api.OK)
	}
	wantMalloc(t, h, 1, 0, 0, 0, api.ErrFull)
}

func TestTheDocumentsExampleHeap(t *testing.T) {
	h := mustNew(t, exampleConf())
	for _, c := range [][2]int{{0, -1}, {16, 0}, {32, -1}, {48, 15}, {79, 15}, {80, -1}, {96, 15}, {127, 15}, {128, -1}, {-1, -1}} {
		wantTag(t, h, c[0], c[1])
	}
	wantMalloc(t, h, 16, 0, 7, unit+48, api.OK)
	wantMalloc(t, h, 1, 0, 8, 2*unit+64, api.OK)
	wantMalloc(t, h, 5, 0, 9, 0, api.ErrFull)
	wantMalloc(t, h, 17, 27, 3, 14*unit+96, api.OK)
	wantMalloc(t, h, 0, 0, 0, 0, api.ErrSize)
	wantMalloc(t, h, 33, 0, 0, 0, api.ErrSize)
	wantLoad(t, h, unit+63, 2, 0, api.ErrTag)
	wantLoad(t, h, 14*unit+126, 4, 0, api.ErrMap)
	wantStore(t, h, unit+48, 2, 515, api.OK)
	wantLoad(t, h, unit+48, 1, 3, api.OK)
	wantFree(t, h, unit+48, 10, api.OK)
	wantTag(t, h, 48, 15)
	wantMalloc(t, h, 16, 0, 11, 0, api.ErrFull)
	wantFree(t, h, unit+48, 12, api.ErrTwice)
	wantExplain(t, h, unit+50, 1, api.Report{Err: api.ErrTag, Addr: 50, Want: 1, Found: 15, State: api.Freed, Alloc: 7, Gone: 10, Near: []api.Near{{Slot: 0, Alloc: 7, Gone: 10}}})
	wantFree(t, h, 2*unit+64, 13, api.OK)
	wantMalloc(t, h, 16, 0, 14, 3*unit+48, api.OK)
	wantFree(t, h, unit+48, 15, api.ErrFree)
	wantUsable(t, h, 3*unit+48, 16, api.OK)
	wantUsable(t, h, 0, 0, api.ErrFree)
}
