package granule

import (
	"testing"

	"granule/api"
)

// reportHeap has static memory at 16 to 31; slots of one granule at 48 (live, tag 5), 64 (freed, tag 2)
// and 80 (live, tag 5); slots of three granules at 112 (freed, tag 5) and 160 (freed, tag 6).
func reportHeap(t *testing.T) *Heap {
	t.Helper()
	h := mustNew(t, api.Conf{Static: 1, Rest: 1, Classes: classes(1, 3, 3, 2)})
	wantMalloc(t, h, 16, 4, 101, 5*unit+48, api.OK)
	wantMalloc(t, h, 16, 1, 102, 2*unit+64, api.OK)
	wantMalloc(t, h, 16, 3, 103, 5*unit+80, api.OK)
	wantMalloc(t, h, 17, 4, 104, 5*unit+112, api.OK)
	wantRealloc(t, h, 5*unit+112, 33, 4, 105, 6*unit+160, api.OK)
	wantFree(t, h, 6*unit+160, 106, api.OK)
	wantFree(t, h, 2*unit+64, 107, api.OK)
	return h
}

func TestP12WithoutADecisionTheReportIsTheErrorAlone(t *testing.T) {
	h := reportHeap(t)
	wantExplain(t, h, 5*unit+48, 16, api.Report{})
	wantExplain(t, h, 5*unit+63, 1, api.Report{})
	wantExplain(t, h, 16, 16, api.Report{})
	for _, p := range extremes {
		wantExplain(t, h, p, 0, api.Report{})
		for _, n := range []int{least, -1, 65537, most} {
			wantExplain(t, h, p, n, api.Report{Err: api.ErrArg})
		}
	}
	for _, p := range []int{least, -unit + 48, -1, 65536, 5*unit + 65536, 16 * unit, 16*unit + 48, most} {
		for _, n := range []int{1, 16, 65536} {
			wantExplain(t, h, p, n, api.Report{Err: api.ErrWild})
		}
		wantBlame(t, h, p, api.Report{Err: api.ErrWild})
	}
	wantBlame(t, h, 5*unit+48, api.Report{})
	wantBlame(t, h, 5*unit+80, api.Report{})
}

func TestP12AddrIsTheLowestOfTheAccessInTheGranuleThatDecided(t *testing.T) {
	h := reportHeap(t)
	for _, c := range []struct {
		p, n, addr int
		err        api.Errno
	}{
		{0, 1, 0, api.ErrMap},
		{7, 65536, 7, api.ErrMap},
		{15, 2, 15, api.ErrMap},
		{16, 17, 32, api.ErrMap},
		{31, 2, 32, api.ErrMap},
		{20, 65536, 32, api.ErrMap},
		{5*unit + 20, 60, 20, api.ErrTag},
		{5*unit + 40, 60, 40, api.ErrMap},
		{5*unit + 48, 17, 64, api.ErrTag},
		{5*unit + 57, 40, 64, api.ErrTag},
		{2*unit + 50, 30, 50, api.ErrTag},
		{2*unit + 79, 1, 79, api.ErrTag},
		{5*unit + 90, 7, 96, api.ErrMap},
		{5*unit + 111, 2, 111, api.ErrMap},
		{15*unit + 200, 20, 200, api.ErrTag},
		{15*unit + 208, 20, 208, api.ErrMap},
		{65535, 65536, 65535, api.ErrMap},
		{15*unit + 65535, 1, 65535, api.ErrMap},
	} {
		if r := h.Explain(c.p, c.n); r.Addr != c.addr || r.Err != c.err || r.Want != c.p/unit {
			t.Errorf("Explain(%d, %d) = %+v, want Err %d, Addr %d", c.p, c.n, r, c.err, c.addr)
		}
	}
}

func TestP12OutsideOfSlotsNothingMoreIsTold(t *testing.T) {
	h := reportHeap(t)
	// 5 is the last tag of slot 0, which lies beside a gap and beside static memory.
	for _, tag := range []int{0, 5, 14, 15} {
		for _, addr := range []int{0, 15, 32, 47, 96, 111, 208, 223, 224, 65535} {
			wantExplain(t, h, tag*unit+addr, 3, api.Report{Err: api.ErrMap, Addr: addr, Want: tag, Found: -1, State: api.Nowhere})
			wantBlame(t, h, tag*unit+addr, api.Report{Err: api.ErrFree, Addr: addr, Want: tag, Found: -1, State: api.Nowhere})
		}
		for _, addr := range []int{16, 17, 31} {
			if tag != 0 {
				wantExplain(t, h, tag*unit+addr, 1, api.Report{Err: api.ErrTag, Addr: addr, Want: tag, State: api.InStatic})
			}
			wantBlame(t, h, tag*unit+addr, api.Report{Err: api.ErrFree, Addr: addr, Want: tag, State: api.InStatic})
		}
	}
}

func TestP12TheSlotAndItsSites(t *testing.T) {
	h := reportHeap(t)
	for tag := 8; tag <= 15; tag++ {
		for at := 0; at < 16; at++ {
			wantExplain(t, h, tag*unit+48+at, 1, api.Report{Err: api.ErrTag, Addr: 48 + at, Want: tag, Found: 5, State: api.Live, Alloc: 101})
			wantExplain(t, h, tag*unit+64+at, 1, api.Report{Err: api.ErrTag, Addr: 64 + at, Want: tag, Found: 15, State: api.Freed, Slot: 1, Alloc: 102, Gone: 107})
			wantBlame(t, h, tag*unit+64+at, api.Report{Err: api.ErrFree, Addr: 64 + at, Want: tag, Found: 15, State: api.Freed, Slot: 1, Alloc: 102, Gone: 107})
			wantBlame(t, h, tag*unit+80+at, api.Report{Err: api.ErrFree, Addr: 80 + at, Want: tag, Found: 5, State: api.Live, Slot: 2, Alloc: 103})
		}
	}
	// Realloc's site is told as the old block's end and as the new block's beginning.
	wantBlame(t, h, 5*unit+112, api.Report{Err: api.ErrTwice, Addr: 112, Want: 5, Found: 15, State: api.Freed, Class: 1, Alloc: 104, Gone: 105, Near: []api.Near{{Slot: 0, Alloc: 104, Gone: 105}}})
	wantBlame(t, h, 6*unit+160, api.Report{Err: api.ErrTwice, Addr: 160, Want: 6, Found: 15, State: api.Freed, Class: 1, Slot: 1, Alloc: 105, Gone: 106, Near: []api.Near{{Slot: 1, Alloc: 105, Gone: 106}}})
}

func TestP12AVirginSlotHasNoSitesAndIsNearNothing(t *testing.T) {
	h := mustNew(t, api.Conf{Classes: classes(2, 3)})
	for tag := 0; tag <= 15; tag++ {
		wantExplain(t, h, tag*unit+70, 1, api.Report{Err: api.ErrTag, Addr: 70, Want: tag, Found: 15, State: api.Virgin, Slot: 1})
		wantBlame(t, h, tag*unit+64, api.Report{Err: api.ErrFree, Addr: 64, Want: tag, Found: 15, State: api.Virgin, Slot: 1})
	}
	wantMalloc(t, h, 1, 0, 9, unit+32, api.OK)
	wantExplain(t, h, unit+95, 1, api.Report{Err: api.ErrTag, Addr: 95, Want: 1, Found: 15, State: api.Virgin, Slot: 1, Near: []api.Near{{Slot: 0, Alloc: 9}}})
	wantExplain(t, h, unit+96, 1, api.Report{Err: api.ErrTag, Addr: 96, Want: 1, Found: 15, State: api.Virgin, Slot: 2})
}

func TestP12TheRestOfALiveSlotIsPoisonedAndStillItsSlot(t *testing.T) {
	h := mustNew(t, api.Conf{Classes: classes(3, 1)})
	wantMalloc(t, h, 17, 0, -4, unit+32, api.OK)
	itself := []api.Near{{Slot: 0, Alloc: -4}}
	wantExplain(t, h, unit+60, 20, api.Report{Err: api.ErrTag, Addr: 64, Want: 1, Found: 15, State: api.Live, Alloc: -4, Near: itself})
	wantBlame(t, h, unit+64, api.Report{Err: api.ErrFree, Addr: 64, Want: 1, Found: 15, State: api.Live, Alloc: -4, Near: itself})
	wantBlame(t, h, unit+33, api.Report{Err: api.ErrFree, Addr: 33, Want: 1, Found: 1, State: api.Live, Alloc: -4, Near: itself})
	wantExplain(t, h, 15*unit+79, 1, api.Report{Err: api.ErrTag, Addr: 79, Want: 15, Found: 15, State: api.Live, Alloc: -4})
}

func TestP12NearListsBelowItselfAbove(t *testing.T) {
	h := reportHeap(t)
	below := api.Near{Slot: 0, Alloc: 101}
	middle := api.Near{Slot: 1, Alloc: 102, Gone: 107}
	above := api.Near{Slot: 2, Alloc: 103}
	for _, c := range []struct {
		p    int
		want []api.Near
	}{
		{5*unit + 64, []api.Near{below, above}},
		{2*unit + 64, []api.Near{middle}},
		{2*unit + 48, []api.Near{middle}},
		{2*unit + 80, []api.Near{middle}},
		{6*unit + 64, nil},
		{64, nil},
		{15*unit + 64, nil},
		// Slots of the other class are near nobody here.
		{6*unit + 80, nil},
		{2*unit + 112, nil},
		{5*unit + 160, []api.Near{{Slot: 0, Alloc: 104, Gone: 105}}},
		{6*unit + 112, []api.Near{{Slot: 1, Alloc: 105, Gone: 106}}},
	} {
		for _, r := range []api.Report{h.Explain(c.p, 1), h.Blame(c.p)} {
			got := r
			got.Near = c.want
			wantReport(t, "a report's Near", r, got)
		}
	}
	wantBlame(t, h, 5*unit+49, api.Report{Err: api.ErrFree, Addr: 49, Want: 5, Found: 5, State: api.Live, Alloc: 101, Near: []api.Near{below}})
}

func TestP12TheNewBlockOfASlotTakesThePlaceOfTheOldOne(t *testing.T) {
	h := mustNew(t, api.Conf{Classes: classes(1, 1)})
	wantMalloc(t, h, 1, 0, 1, unit+32, api.OK)
	wantFree(t, h, unit+32, 2, api.OK)
	wantMalloc(t, h, 1, 0, 3, 2*unit+32, api.OK)
	wantExplain(t, h, unit+32, 1, api.Report{Err: api.ErrTag, Addr: 32, Want: 1, Found: 2, State: api.Live, Alloc: 3})
	wantBlame(t, h, unit+32, api.Report{Err: api.ErrFree, Addr: 32, Want: 1, Found: 2, State: api.Live, Alloc: 3})
	wantExplain(t, h, 2*unit+33, 15, api.Report{})
}

func TestP12SitesAreToldAsTheyAre(t *testing.T) {
	for _, site := range extremes {
		h := mustNew(t, api.Conf{Classes: classes(1, 1)})
		wantMalloc(t, h, 1, 0, site, unit+32, api.OK)
		wantFree(t, h, unit+32, ^site, api.OK)
		wantBlame(t, h, unit+32, api.Report{Err: api.ErrTwice, Addr: 32, Want: 1, Found: 15, State: api.Freed, Alloc: site, Gone: ^site, Near: []api.Near{{Slot: 0, Alloc: site, Gone: ^site}}})
	}
}

func TestP12BlameOfZeroIsThatOfFreeingNothing(t *testing.T) {
	wantBlame(t, reportHeap(t), 0, api.Report{Err: api.ErrFree, Found: -1})
}

func TestP12ReportsHaveTheErrorsOfTheCalls(t *testing.T) {
	h := reportHeap(t)
	was := copyOf(h)
	for tag := 0; tag <= 16; tag++ {
		for addr := 0; addr < 240; addr++ {
			p := tag*unit + addr
			_, err := h.Usable(p)
			if r := h.Blame(p); r.Err != err {
				t.Fatalf("Blame(%d) = %+v, want Err %d", p, r, err)
			}
			_, err = h.Load(p, 8)
			if r := h.Explain(p, 8); r.Err != err || r.Found != 0 && r.Found != h.Tag(r.Addr) {
				t.Fatalf("Explain(%d, 8) = %+v, want Err %d", p, r, err)
			}
		}
	}
	wantUnchanged(t, h, was, "a report")
}

func TestP2ReportsAreFresh(t *testing.T) {
	h := reportHeap(t)
	want := []api.Near{{Slot: 0, Alloc: 101}, {Slot: 2, Alloc: 103}}
	was := copyOf(h)
	first := h.Explain(5*unit+64, 1)
	second := h.Blame(5*unit + 64)
	spoil(first.Near)
	wantReport(t, "a report beside one that was written into", api.Report{Near: second.Near}, api.Report{Near: want})
	spoil(second.Near)
	third := h.Blame(5*unit + 64)
	wantReport(t, "a later report", api.Report{Near: third.Near}, api.Report{Near: want})
	wantUnchanged(t, h, was, "writing into a report")
}

// spoil writes into a list and into all of its spare room.
func spoil(list []api.Near) {
	list = list[:cap(list)]
	for i := range list {
		list[i] = api.Near{Slot: -99, Alloc: -99, Gone: -99}
	}
}
