package granule

import (
	"reflect"
	"testing"

	"granule/api"
)

// faultRegs are the registers of the fault tests; the heap of withRegs has static memory at 16 to 79,
// slots of one granule at 96 and 112, and one of two granules at 144.
var faultRegs = []int{16, 0, 0, 0, 17}

// faultCode gives out blocks of 16 bytes in the registers 1 (tag 1) and 2 (tag 2) and one of 17 in 3 (tag 5),
// at the sites 10, 11 and 12, and frees the first at 13. What the test is about comes as number 14.
func faultCode(x api.Instr) api.Program {
	return withRegs(faultRegs, do(api.OpMalloc, 1, 0), do(api.OpMalloc, 2, 0), do(api.OpMalloc, 3, 4), do(api.OpFree, 1), x, do(api.OpOut, 1))
}

func wantFault(t *testing.T, x api.Instr, taken int, want api.Report) {
	t.Helper()
	p := faultCode(x)
	wantRun(t, p, "", []int{0, 0, 4, 0, 0}, 99, api.Outcome{End: api.EndFault, Steps: 15, Pc: 14, Draws: taken, Report: want})
	// Without fuel for the step there is no fault.
	wantRun(t, p, "", []int{0, 0, 4, 0, 0}, 14, api.Outcome{End: api.EndFuel, Steps: 14, Pc: 14, Draws: 3})
}

func TestP16FaultsOfBlocks(t *testing.T) {
	twice := api.Report{Err: api.ErrTwice, Addr: 96, Want: 1, Found: 15, State: api.Freed, Alloc: 10, Gone: 13, Near: []api.Near{{Slot: 0, Alloc: 10, Gone: 13}}}
	wantFault(t, do(api.OpFree, 1), 3, twice)
	wantFault(t, do(api.OpUsable, 1, 1), 3, twice)
	wantFault(t, do(api.OpUsable, 6, 1), 3, twice)
	wantFault(t, do(api.OpRealloc, 1, 1, 0), 4, twice)
	// The block's error comes ahead of the size's.
	wantFault(t, do(api.OpRealloc, 6, 1, 7), 4, twice)
	inside := api.Report{Err: api.ErrFree, Addr: 16, Found: 0, State: api.InStatic}
	wantFault(t, do(api.OpFree, 0), 3, inside)
	wantFault(t, do(api.OpUsable, 7, 0), 3, inside)
	wantFault(t, do(api.OpRealloc, 7, 0, 0), 4, inside)
	// Of 0 Usable is refused, where Free and Realloc are not.
	wantFault(t, do(api.OpUsable, 0, 7), 3, api.Report{Err: api.ErrFree, Found: -1})
}

func TestP16FaultsOfWildPointers(t *testing.T) {
	for _, x := range []api.Instr{do(api.OpFree, 0), do(api.OpUsable, 1, 0), do(api.OpLoad, 1, 0, 0), do(api.OpByte, 1, 0, 255),
		do(api.OpStore, 0, 1, 0), do(api.OpPut, 0, 1, 255), do(api.OpMove, 0, 0, 1)} {
		for _, p := range []int{least, -unit, -256, 65536, unit - 256, 16 * unit, most - 256} {
			wantRun(t, withRegs([]int{p, 1}, x), "", nil, 99, api.Outcome{End: api.EndFault, Steps: 5, Pc: 4, Report: api.Report{Err: api.ErrWild}})
			wantRun(t, withRegs([]int{p, 1}, do(api.OpRealloc, 1, 0, 1)), "", []int{0}, 99, api.Outcome{End: api.EndFault, Steps: 5, Pc: 4, Draws: 1, Report: api.Report{Err: api.ErrWild}})
		}
	}
}

func TestP16AnOffsetWraps(t *testing.T) {
	for _, x := range []api.Instr{do(api.OpLoad, 1, 0, 1), do(api.OpByte, 1, 0, 1), do(api.OpStore, 0, 1, 1), do(api.OpPut, 0, 1, 1)} {
		wantRun(t, withRegs([]int{most}, x), "", nil, 99, api.Outcome{End: api.EndFault, Steps: 3, Pc: 2, Report: api.Report{Err: api.ErrWild}})
	}
	// From a wild pointer an offset may lead into static memory.
	wantRegs(t, []int{-1, 7, 0}, nil, "", []api.Instr{do(api.OpByte, 2, 0, 25)}, []int{-1, 7, 7})
	wantRun(t, withRegs([]int{-1}, do(api.OpByte, 2, 0, 1)), "", nil, 99, api.Outcome{End: api.EndFault, Steps: 3, Pc: 2, Report: api.Report{Err: api.ErrMap, Found: -1}})
}

func TestP16FaultsOfNumbers(t *testing.T) {
	gone := func(addr int) api.Report {
		return api.Report{Err: api.ErrTag, Addr: addr, Want: 1, Found: 15, State: api.Freed, Alloc: 10, Gone: 13, Near: []api.Near{{Slot: 0, Alloc: 10, Gone: 13}}}
	}
	for c := 0; c < 16; c++ {
		wantFault(t, do(api.OpByte, 6, 1, c), 3, gone(96+c))
		wantFault(t, do(api.OpPut, 1, 6, c), 3, gone(96+c))
		wantFault(t, do(api.OpLoad, 6, 1, c), 3, gone(96+c))
		wantFault(t, do(api.OpStore, 1, 6, c), 3, gone(96+c))
	}
	beside := api.Report{Err: api.ErrTag, Addr: 112, Want: 1, Found: 2, State: api.Live, Slot: 1, Alloc: 11, Near: []api.Near{{Slot: 0, Alloc: 10, Gone: 13}}}
	wantFault(t, do(api.OpByte, 6, 1, 16), 3, beside)
	wantFault(t, do(api.OpStore, 1, 6, 16), 3, beside)
	// The width decides how far an access reaches.
	behind := api.Report{Err: api.ErrMap, Addr: 128, Want: 2, Found: -1}
	for c := 9; c < 16; c++ {
		wantFault(t, do(api.OpLoad, 6, 2, c), 3, behind)
		wantFault(t, do(api.OpStore, 2, 6, c), 3, behind)
	}
	wantFault(t, do(api.OpByte, 6, 2, 16), 3, behind)
	wantFault(t, do(api.OpPut, 2, 6, 16), 3, behind)
	wantFault(t, do(api.OpByte, 6, 3, 255), 3, api.Report{Err: api.ErrMap, Addr: 399, Want: 5, Found: -1})
	wantFault(t, do(api.OpByte, 7, 7, 15), 3, api.Report{Err: api.ErrMap, Addr: 15, Found: -1})
	for _, x := range []api.Instr{do(api.OpLoad, 6, 2, 8), do(api.OpStore, 2, 6, 8), do(api.OpByte, 6, 2, 15), do(api.OpPut, 2, 6, 15)} {
		wantRun(t, faultCode(x), "", []int{0, 0, 4}, 99, api.Outcome{End: api.EndHalt, Steps: 16, Pc: 16, Draws: 3, Out: "\x60"})
	}
}

func TestP16FaultsOfMove(t *testing.T) {
	from := api.Report{Err: api.ErrTag, Addr: 96, Want: 1, Found: 15, State: api.Freed, Alloc: 10, Gone: 13, Near: []api.Near{{Slot: 0, Alloc: 10, Gone: 13}}}
	// Register 0 is a pointer into static memory as well as a length; register 7 is 0.
	wantFault(t, do(api.OpMove, 0, 1, 0), 3, from)
	wantFault(t, do(api.OpMove, 2, 1, 0), 3, from)
	wantFault(t, do(api.OpMove, 1, 0, 0), 3, from)
	wantFault(t, do(api.OpMove, 1, 2, 0), 3, from)
	nowhere := api.Report{Err: api.ErrMap, Found: -1}
	// Where both are refused the one that is read from is told.
	wantFault(t, do(api.OpMove, 1, 7, 0), 3, nowhere)
	wantFault(t, do(api.OpMove, 7, 1, 0), 3, from)
	wantFault(t, do(api.OpMove, 7, 0, 0), 3, nowhere)
	// With 17 bytes the block of 16 is too short, on either side.
	short := api.Report{Err: api.ErrMap, Addr: 128, Want: 2, Found: -1}
	wantFault(t, do(api.OpMove, 3, 2, 4), 3, short)
	wantFault(t, do(api.OpMove, 2, 3, 4), 3, short)
	wantFault(t, do(api.OpMove, 2, 2, 4), 3, short)
	wantFault(t, do(api.OpMove, 3, 0, 3), 3, api.Report{Err: api.ErrArg})
	for _, n := range []int{least, -1, 65537, most} {
		wantRun(t, withRegs([]int{n}, do(api.OpMove, 0, 0, 0)), "", nil, 99, api.Outcome{End: api.EndFault, Steps: 3, Pc: 2, Report: api.Report{Err: api.ErrArg}})
	}
	wantRun(t, withRegs([]int{65536, 16}, do(api.OpMove, 1, 1, 0)), "", nil, 99, api.Outcome{End: api.EndFault, Steps: 5, Pc: 4, Report: api.Report{Err: api.ErrMap, Addr: 80, Found: -1}})
}

func TestP16TheSiteIsTheInstructionsNumber(t *testing.T) {
	// A loop goes through the same instructions again: the sites are their numbers, not the steps'.
	// The first block of a round is that of slot 0, 0 and 1: the other rests.
	p := withRegs([]int{16}, do(api.OpMalloc, 1, 0), do(api.OpMalloc, 2, 0), do(api.OpFree, 1), do(api.OpFree, 2), do(api.OpIn, 3), do(api.OpZero, 3, 2), do(api.OpFree, 1))
	wantRun(t, p, "\x00\x00\x01", []int{0, 0, 0, 0, 0, 0}, 99, api.Outcome{End: api.EndFault, Steps: 21, Pc: 8, Draws: 6, Report: api.Report{
		Err: api.ErrTwice, Addr: 112, Want: 1, Found: 15, State: api.Freed, Slot: 1, Alloc: 2, Gone: 4, Near: []api.Near{{Slot: 1, Alloc: 2, Gone: 4}}}})
	// Realloc's number is both sites.
	p = withRegs([]int{16}, do(api.OpMalloc, 1, 0), do(api.OpRealloc, 2, 1, 0), do(api.OpFree, 1))
	wantRun(t, p, "", []int{4, 5}, 99, api.Outcome{End: api.EndFault, Steps: 5, Pc: 4, Draws: 2, Report: api.Report{
		Err: api.ErrTwice, Addr: 96, Want: 5, Found: 15, State: api.Freed, Alloc: 2, Gone: 3, Near: []api.Near{{Slot: 0, Alloc: 2, Gone: 3}}}})
	p = withRegs([]int{16}, do(api.OpMalloc, 1, 0), do(api.OpRealloc, 2, 1, 0), do(api.OpByte, 3, 1, 16))
	wantRun(t, p, "", []int{4, 5}, 99, api.Outcome{End: api.EndFault, Steps: 5, Pc: 4, Draws: 2, Report: api.Report{
		Err: api.ErrTag, Addr: 112, Want: 5, Found: 7, State: api.Live, Slot: 1, Alloc: 3, Near: []api.Near{{Slot: 0, Alloc: 2, Gone: 3}}}})
}

func TestP15WhatWasPutOutAheadOfTheEndIsKept(t *testing.T) {
	ahead := []api.Instr{do(api.OpSet, 0, 0, 'k'), do(api.OpOut, 0), do(api.OpSet, 1, 0, 'l'), do(api.OpOut, 1)}
	for _, c := range []struct {
		x    api.Instr
		want api.Outcome
	}{
		{do(api.OpUsable, 0, 7), api.Outcome{End: api.EndFault, Report: api.Report{Err: api.ErrFree, Found: -1}}},
		{do(api.OpMalloc, 0, 0), api.Outcome{End: api.EndDraws}},
		{do(api.OpHalt, 1), api.Outcome{End: api.EndHalt, Code: 'l'}},
	} {
		want := c.want
		want.Steps, want.Pc, want.Out = 5, 4, "kl"
		wantRun(t, exampleProgram("", append(append([]api.Instr{}, ahead...), c.x)...), "", nil, 5, want)
	}
}

func TestP1RunEndsAtAllInputs(t *testing.T) {
	r := &numbers{11}
	for _, n := range extremes {
		for _, m := range extremes {
			for op, letters := range operandsByWords {
				x := do(op)
				for i, operand := range []*int{&x.A, &x.B, &x.C} {
					for *operand = 300; !inRange(letters[i], *operand, 8); {
						*operand = r.next(9)
					}
				}
				p := withRegs([]int{n, m, n}, x, do(api.OpZero, 6, 6))
				o := Run(mustWrite(t, p), "input", []int{n, m}, r.next(100))
				if o.End < api.EndHalt || o.End > api.EndFault || o.Steps > 100 || (o.End == api.EndFault) != (o.Report.Err != api.OK) {
					t.Fatalf("%+v on %d, %d: %+v", x, n, m, o)
				}
			}
		}
	}
}

func TestP2RunKeepsNothing(t *testing.T) {
	image := mustWrite(t, faultCode(do(api.OpFree, 1)))
	spare := []int{0, 0, 4, -9}
	first := Run(image, "in", spare[:3], 99)
	if !reflect.DeepEqual(spare, []int{0, 0, 4, -9}) {
		t.Errorf("Run wrote into the draws: %d", spare)
	}
	second := Run(image, "in", spare[:3], 99)
	spare[0], spare[1], spare[2] = 7, 7, 7
	want := []api.Near{{Slot: 0, Alloc: 10, Gone: 13}}
	spoil(first.Report.Near)
	if !reflect.DeepEqual(second.Report.Near, want) {
		t.Errorf("writing into an outcome changed another one to %+v", second)
	}
	spoil(second.Report.Near)
	third := Run(image, "in", []int{0, 0, 4}, 99)
	if !reflect.DeepEqual(third.Report.Near, want) {
		t.Errorf("writing into outcomes changed a later one to %+v", third)
	}
}
