package granule

import (
	"fmt"
	"reflect"
	"strings"
	"testing"

	"granule/api"
)

// do makes an instruction; operands that are not given are 0.
func do(op int, operands ...int) api.Instr {
	var list [3]int
	copy(list[:], operands)
	return api.Instr{Op: op, A: list[0], B: list[1], C: list[2]}
}

// exampleProgram is a program on the heap of the document's examples.
func exampleProgram(data string, code ...api.Instr) api.Program {
	return api.Program{Conf: exampleConf(), Data: data, Code: code}
}

func mustWrite(t *testing.T, p api.Program) string {
	t.Helper()
	image, err := Write(p)
	if err != api.OK {
		t.Fatalf("Write(%+v) = %d", p, err)
	}
	return image
}

func wantOutcome(t *testing.T, what string, got api.Outcome, want api.Outcome) {
	t.Helper()
	wantReport(t, what+": Report", got.Report, want.Report)
	got.Report, want.Report = api.Report{}, api.Report{}
	if !reflect.DeepEqual(got, want) {
		t.Fatalf("%s = %+v, want %+v", what, got, want)
	}
}

func wantRun(t *testing.T, p api.Program, input string, draws []int, fuel int, want api.Outcome) {
	t.Helper()
	got := Run(mustWrite(t, p), input, draws, fuel)
	wantOutcome(t, fmt.Sprintf("Run(%+v, %q, %d, %d)", p, input, draws, fuel), got, want)
}

// asData lays numbers one behind the other, eight bytes each.
func asData(list ...int) string {
	var data []byte
	for _, n := range list {
		for i := 0; i < 8; i++ {
			data = append(data, byte(uint64(n)>>(8*i)))
		}
	}
	return string(data)
}

// withRegs begins code with what lays numbers into the registers 0, 1, 2, .. by way of static memory.
func withRegs(list []int, code ...api.Instr) api.Program {
	p := api.Program{Conf: api.Conf{Static: 4, Rest: 1, Classes: classes(1, 2, 2, 1)}, Data: asData(list...)}
	for i := len(list) - 1; i >= 0; i-- {
		p.Code = append(p.Code, do(api.OpBase, i, 0, 8*i), do(api.OpLoad, i, i, 0))
	}
	p.Code = append(p.Code, code...)
	return p
}

// wantRegs runs code on registers that hold numbers, and then reads every one of them.
func wantRegs(t *testing.T, list []int, draws []int, input string, code []api.Instr, want []int) {
	t.Helper()
	for i := range want {
		p := withRegs(list, append(append([]api.Instr{}, code...), do(api.OpHalt, i))...)
		got := Run(mustWrite(t, p), input, draws, 99)
		if got.End != api.EndHalt || got.Code != want[i] || got.Pc != len(p.Code)-1 || got.Steps != len(p.Code) {
			t.Fatalf("%+v on the registers %d: register %d halts with %+v, want %d", code, list, i, got, want[i])
		}
	}
}

func TestTheDocumentsExampleRuns(t *testing.T) {
	wantOutcome(t, "a run with fuel 1", Run(smallImage, "", nil, 1), api.Outcome{End: api.EndHalt, Steps: 1})
	wantOutcome(t, "a run with fuel 0", Run(smallImage, "", nil, 0), api.Outcome{End: api.EndFuel})
	wantOutcome(t, "a byte less", Run(smallImage[:12], "", nil, 1), api.Outcome{End: api.EndImage})
	wantOutcome(t, "a byte more", Run(smallImage+"\x00", "", nil, 1), api.Outcome{End: api.EndImage})
}

func TestP15WhatReadRefusesIsNotRun(t *testing.T) {
	images := []string{"", "G", "GR", "RG" + smallImage[2:], smallImage + smallImage, strings.Repeat("\x00", 1000)}
	for i := range smallImage {
		images = append(images, smallImage[:i]+"\xff"+smallImage[i+1:], smallImage[:i])
	}
	for _, image := range images {
		for _, fuel := range extremes {
			wantOutcome(t, fmt.Sprintf("Run(%q)", image), Run(image, "input", []int{1, 2, 3}, fuel), api.Outcome{End: api.EndImage})
		}
	}
}

func TestP15FuelIsBetween0AndMaxFuel(t *testing.T) {
	forever := exampleProgram("", do(api.OpSet, 1, 0, 5), do(api.OpJump, 0))
	for _, fuel := range append([]int{2, 3, 99, 100, 4094, 4095, 4096, 4097, 4098, 8192}, extremes...) {
		steps := min(max(fuel, 0), 4096)
		wantRun(t, forever, "", nil, fuel, api.Outcome{End: api.EndFuel, Steps: steps, Pc: steps % 2})
	}
}

func TestP15BehindTheLastInstructionTheRunHalts(t *testing.T) {
	for _, n := range []int{1, 2, 3, 254, 255} {
		p := exampleProgram("")
		for i := 0; i < n; i++ {
			p.Code = append(p.Code, do(api.OpSet, 0, 0, 77), do(api.OpOut, 0))
		}
		p.Code = p.Code[:n]
		out := strings.Repeat("M", n/2)
		// The end of the code is looked at ahead of the fuel.
		wantRun(t, p, "", nil, n, api.Outcome{End: api.EndHalt, Steps: n, Pc: n, Out: out})
		wantRun(t, p, "", nil, most, api.Outcome{End: api.EndHalt, Steps: n, Pc: n, Out: out})
		wantRun(t, p, "", nil, n-1, api.Outcome{End: api.EndFuel, Steps: n - 1, Pc: n - 1, Out: strings.Repeat("M", (n-1)/2)})
	}
}

func TestP15HaltTellsItsRegisterAndItsNumber(t *testing.T) {
	for i := 0; i < 8; i++ {
		p := exampleProgram("", do(api.OpSet, i, 1, 2), do(api.OpHalt, i), do(api.OpOut, i))
		wantRun(t, p, "", nil, 9, api.Outcome{End: api.EndHalt, Code: 258, Steps: 2, Pc: 1})
		// With the fuel that is left for the step ahead of Halt there is no Code.
		wantRun(t, p, "", nil, 1, api.Outcome{End: api.EndFuel, Steps: 1, Pc: 1})
	}
	for _, n := range extremes {
		wantRegs(t, []int{n}, nil, "", nil, []int{n})
	}
}

func TestP15RegistersBeginAsZero(t *testing.T) {
	for i := 0; i < 8; i++ {
		p := exampleProgram("", do(api.OpOut, i), do(api.OpZero, i, 3), do(api.OpOut, i), do(api.OpHalt, i))
		wantRun(t, p, "\x01", []int{1}, 9, api.Outcome{End: api.EndHalt, Steps: 3, Pc: 3, Out: "\x00"})
	}
}

// tellStatic puts out the bytes of static memory one by one, and goes on until there is none.
func tellStatic() []api.Instr {
	return []api.Instr{do(api.OpBase, 0, 0, 0), do(api.OpSet, 1, 0, 1), do(api.OpByte, 2, 0, 0), do(api.OpOut, 2), do(api.OpAdd, 0, 0, 1), do(api.OpJump, 2)}
}

func TestP15StaticMemoryBeginsWithData(t *testing.T) {
	bytes := make([]byte, 255)
	for i := range bytes {
		bytes[i] = byte(255 - i)
	}
	for static := 0; static <= 16; static++ {
		for _, n := range []int{0, 1, 16*static - 1, 16 * static} {
			if n < 0 || n > 16*static || n > 255 {
				continue
			}
			p := api.Program{Conf: api.Conf{Static: static, Classes: classes(1, 1)}, Data: string(bytes[:n]), Code: tellStatic()}
			out := string(bytes[:n]) + strings.Repeat("\x00", 16*static-n)
			report := api.Report{Err: api.ErrMap, Addr: 16 + 16*static, Found: -1}
			wantRun(t, p, "", nil, most, api.Outcome{End: api.EndFault, Steps: 3 + 64*static, Pc: 2, Out: out, Report: report})
		}
	}
}

func TestP15RunsHaveNothingInCommon(t *testing.T) {
	// Puts out what static memory and a fresh block hold, writes into both, and leaves the block live.
	p := exampleProgram("s", do(api.OpBase, 0, 0, 0), do(api.OpByte, 2, 0, 0), do(api.OpOut, 2), do(api.OpIn, 3), do(api.OpPut, 0, 3, 0),
		do(api.OpSet, 1, 0, 32), do(api.OpMalloc, 4, 1), do(api.OpByte, 2, 4, 0), do(api.OpOut, 2), do(api.OpPut, 4, 3, 0), do(api.OpHalt, 4))
	for i := 0; i < 3; i++ {
		wantRun(t, p, "xyz", []int{6}, 99, api.Outcome{End: api.EndHalt, Code: 7*unit + 96, Steps: 11, Pc: 10, Draws: 1, Out: "s\x00"})
	}
}

func TestP16SetAndBase(t *testing.T) {
	for _, b := range []int{0, 1, 2, 7, 8, 127, 128, 254, 255} {
		for _, c := range []int{0, 1, 2, 7, 8, 127, 128, 254, 255} {
			list := []int{-5, -6, -7, -8}
			wantRegs(t, list, nil, "", []api.Instr{do(api.OpSet, 2, b, c)}, []int{-5, -6, 256*b + c, -8})
			wantRegs(t, list, nil, "", []api.Instr{do(api.OpBase, 1, b, c)}, []int{-5, 16 + 256*b + c, -7, -8})
		}
	}
}

// ifTrue is 1 or 0.
func ifTrue(yes bool) int {
	if yes {
		return 1
	}
	return 0
}

func TestP16AddSubLessSame(t *testing.T) {
	some := []int{least, least + 1, -256, -1, 0, 1, 2, 255, unit + 48, most - 1, most}
	for _, b := range some {
		for _, c := range some {
			sum := int(uint64(b) + uint64(c))
			difference := int(uint64(b) - uint64(c))
			for _, x := range []struct{ op, want int }{{api.OpAdd, sum}, {api.OpSub, difference}, {api.OpLess, ifTrue(b < c)}, {api.OpSame, ifTrue(b == c)}} {
				wantRegs(t, []int{9, b, c}, nil, "", []api.Instr{do(x.op, 0, 1, 2)}, []int{x.want, b, c})
				wantRegs(t, []int{9, b, c}, nil, "", []api.Instr{do(x.op, 1, 1, 2)}, []int{9, x.want, c})
				wantRegs(t, []int{9, b, c}, nil, "", []api.Instr{do(x.op, 2, 1, 2)}, []int{9, b, x.want})
			}
		}
		wantRegs(t, []int{b}, nil, "", []api.Instr{do(api.OpAdd, 0, 0, 0)}, []int{int(2 * uint64(b))})
		wantRegs(t, []int{b}, nil, "", []api.Instr{do(api.OpSub, 0, 0, 0)}, []int{0})
		wantRegs(t, []int{b}, nil, "", []api.Instr{do(api.OpLess, 0, 0, 0)}, []int{0})
		wantRegs(t, []int{b}, nil, "", []api.Instr{do(api.OpSame, 0, 0, 0)}, []int{1})
	}
}

func TestP16Jump(t *testing.T) {
	// Forwards over an instruction, backwards, to the last, and out of it.
	p := exampleProgram("", do(api.OpJump, 3), do(api.OpSet, 0, 0, 'b'), do(api.OpJump, 5), do(api.OpSet, 0, 0, 'a'), do(api.OpJump, 2), do(api.OpOut, 0))
	wantRun(t, p, "", nil, 99, api.Outcome{End: api.EndHalt, Steps: 5, Pc: 6, Out: "a"})
	wantRun(t, p, "", nil, 1, api.Outcome{End: api.EndFuel, Steps: 1, Pc: 3})
	wantRun(t, p, "", nil, 3, api.Outcome{End: api.EndFuel, Steps: 3, Pc: 2})
	long := exampleProgram("", jumps(255)...)
	long.Code[0] = do(api.OpJump, 254)
	long.Code[254] = do(api.OpJump, 0)
	wantRun(t, long, "", nil, 7, api.Outcome{End: api.EndFuel, Steps: 7, Pc: 254})
}

func TestP16ZeroJumpsAtZeroAlone(t *testing.T) {
	for _, n := range extremes {
		p := withRegs([]int{n}, do(api.OpZero, 0, 4), do(api.OpHalt, 1), do(api.OpSet, 1, 0, 1), do(api.OpHalt, 1))
		want := api.Outcome{End: api.EndHalt, Steps: 4, Pc: 3}
		if n == 0 {
			want = api.Outcome{End: api.EndHalt, Code: 1, Steps: 5, Pc: 5}
		}
		wantRun(t, p, "", nil, 99, want)
	}
	p := exampleProgram("", do(api.OpZero, 7, 0))
	wantRun(t, p, "", nil, 99, api.Outcome{End: api.EndFuel, Steps: 99})
}

func TestP16InReadsByteByByteAndThenMinusOne(t *testing.T) {
	for b := 0; b < 256; b++ {
		one := string([]byte{byte(b)})
		wantRegs(t, []int{5, 6, 7}, nil, one, []api.Instr{do(api.OpIn, 1), do(api.OpIn, 2)}, []int{5, b, -1})
		wantRegs(t, []int{5, 6, 7}, nil, "z"+one+"y", []api.Instr{do(api.OpIn, 1), do(api.OpIn, 1), do(api.OpIn, 0)}, []int{'y', b, 7})
	}
	wantRegs(t, []int{5, 6, 7}, nil, "", []api.Instr{do(api.OpIn, 0), do(api.OpIn, 1), do(api.OpIn, 2)}, []int{-1, -1, -1})
	echo := exampleProgram("", do(api.OpIn, 3), do(api.OpOut, 3), do(api.OpJump, 0))
	input := strings.Repeat("ab\x00\xff", 300)
	wantRun(t, echo, input, nil, 3600, api.Outcome{End: api.EndFuel, Steps: 3600, Out: input})
}

func TestP16OutPutsTheLowestByteOut(t *testing.T) {
	for _, n := range append([]int{255, 256, 257, 511, -255, -256, -257, 0x0123456789abcdef}, extremes...) {
		p := withRegs([]int{n, 3}, do(api.OpOut, 0), do(api.OpOut, 1))
		wantRun(t, p, "", nil, 99, api.Outcome{End: api.EndHalt, Steps: 6, Pc: 6, Out: string([]byte{byte(n & 255), 3})})
	}
}

func TestP16Malloc(t *testing.T) {
	malloc := []api.Instr{do(api.OpMalloc, 1, 0)}
	wantRegs(t, []int{16, 9}, []int{0}, "", malloc, []int{16, unit + 96})
	wantRegs(t, []int{16, 9}, []int{27}, "", malloc, []int{16, 14*unit + 96})
	wantRegs(t, []int{17, 9}, []int{-1}, "", malloc, []int{17, 14*unit + 144})
	for _, size := range []int{least, -1, 0, 33, unit, most} {
		wantRegs(t, []int{size, 9}, []int{0}, "", malloc, []int{size, 0})
	}
	full := []api.Instr{do(api.OpMalloc, 1, 0), do(api.OpMalloc, 2, 0), do(api.OpMalloc, 3, 0), do(api.OpMalloc, 0, 0)}
	wantRegs(t, []int{16, 9, 9, 9}, []int{0, 0, 0, 0}, "", full, []int{0, unit + 96, 2*unit + 112, 0})
}

func TestP16DrawsAreTakenInTheirOrderWhateverComesOfIt(t *testing.T) {
	// A size that no class has, a block, a full class, a Realloc that is refused and one that is not.
	code := []api.Instr{do(api.OpMalloc, 5, 7), do(api.OpMalloc, 1, 0), do(api.OpMalloc, 2, 0), do(api.OpMalloc, 3, 0), do(api.OpRealloc, 4, 1, 7), do(api.OpRealloc, 6, 1, 3)}
	draws := []int{1, 2, 3, 4, 5, 6, 7}
	p := withRegs([]int{32}, code...)
	for n := 0; n <= len(draws); n++ {
		want := api.Outcome{End: api.EndDraws, Steps: 3 + n, Pc: 2 + n, Draws: n}
		if n >= len(code) {
			want = api.Outcome{End: api.EndHalt, Steps: 8, Pc: 8, Draws: 6}
		}
		wantRun(t, p, "", draws[:n], 99, want)
	}
	// The second draw gives the block its tag.
	wantRegs(t, []int{32, 0, 0, 0, 0, 9, 9, -1}, draws, "", code, []int{32, 3*unit + 144, 0, 0, 0, 0, 0, -1})
}

func TestP16WithoutADrawNothingIsDone(t *testing.T) {
	for _, x := range []api.Instr{do(api.OpMalloc, 0, 1), do(api.OpRealloc, 0, 1, 2)} {
		for _, list := range [][]int{nil, {}} {
			// The pointer is wild and the size is none, and still the want of a draw comes first.
			wantRun(t, withRegs([]int{1, -1, -1}, x), "", list, 99, api.Outcome{End: api.EndDraws, Steps: 7, Pc: 6})
			wantRun(t, withRegs([]int{1, -1, -1}, x), "", list, 6, api.Outcome{End: api.EndFuel, Steps: 6, Pc: 6})
		}
	}
}

func TestP16FreeAndItsRest(t *testing.T) {
	// Of two slots one is freed, and rests until the other is freed too.
	code := []api.Instr{do(api.OpMalloc, 1, 0), do(api.OpMalloc, 2, 0), do(api.OpFree, 1), do(api.OpMalloc, 3, 0), do(api.OpFree, 2), do(api.OpMalloc, 4, 0)}
	wantRegs(t, []int{16, 0, 0, 9, 0}, []int{0, 0, 0, 0}, "", code, []int{16, unit + 96, 2*unit + 112, 0, 3*unit + 96})
	wantRegs(t, []int{16, 0, 7}, nil, "", []api.Instr{do(api.OpFree, 1)}, []int{16, 0, 7})
}

func TestP16Realloc(t *testing.T) {
	grow := []api.Instr{do(api.OpMalloc, 2, 0), do(api.OpStore, 2, 3, 8), do(api.OpRealloc, 4, 2, 1), do(api.OpLoad, 5, 4, 8), do(api.OpLoad, 6, 4, 24), do(api.OpUsable, 7, 4)}
	wantRegs(t, []int{16, 17, 0, -3, 0, 0, 9}, []int{0, 1}, "", grow, []int{16, 17, unit + 96, -3, 2*unit + 144, -3, 0, 32})
	// Of 0 it is Malloc; of a block to a size that there is not the block stays.
	code := []api.Instr{do(api.OpRealloc, 1, 2, 0), do(api.OpRealloc, 3, 1, 4), do(api.OpUsable, 5, 1)}
	wantRegs(t, []int{16, 0, 0, 9, 33}, []int{2, 3}, "", code, []int{16, 3*unit + 96, 0, 0, 33, 16})
	// With both slots live the class is full.
	code = []api.Instr{do(api.OpMalloc, 1, 0), do(api.OpMalloc, 2, 0), do(api.OpRealloc, 2, 1, 0), do(api.OpUsable, 3, 1)}
	wantRegs(t, []int{16}, []int{0, 0, 0}, "", code, []int{16, unit + 96, 0, 16})
	// One register may be all three; the old pointer is then gone.
	code = []api.Instr{do(api.OpMalloc, 1, 0), do(api.OpRealloc, 1, 1, 0), do(api.OpRealloc, 0, 7, 0)}
	wantRegs(t, []int{16}, []int{0, 0, 13}, "", code, []int{0, 2*unit + 112})
}

func TestP16Usable(t *testing.T) {
	for _, size := range []int{1, 16, 17, 32} {
		code := []api.Instr{do(api.OpMalloc, 1, 0), do(api.OpUsable, 2, 1), do(api.OpUsable, 1, 1)}
		n := (size + 15) / 16 * 16
		wantRegs(t, []int{size}, []int{5}, "", code, []int{size, n, n})
	}
}

func TestP16LoadByteStorePut(t *testing.T) {
	const number = -0x0123456789abcdef
	for c := 0; c <= 24; c++ {
		code := []api.Instr{do(api.OpMalloc, 1, 0), do(api.OpStore, 1, 2, c), do(api.OpLoad, 3, 1, c), do(api.OpByte, 4, 1, c), do(api.OpByte, 5, 1, c+7)}
		wantRegs(t, []int{32, 0, number}, []int{0}, "", code, []int{32, unit + 144, number, number, 0x11, 0xfe})
	}
	for c := 0; c <= 31; c++ {
		code := []api.Instr{do(api.OpMalloc, 1, 0), do(api.OpPut, 1, 2, c), do(api.OpByte, 3, 1, c), do(api.OpByte, 4, 1, c^1)}
		wantRegs(t, []int{32, 0, number}, []int{0}, "", code, []int{32, unit + 144, number, 0x11, 0})
	}
	// A register may hold the pointer and take the number.
	code := []api.Instr{do(api.OpMalloc, 1, 0), do(api.OpStore, 1, 1, 0), do(api.OpLoad, 1, 1, 0), do(api.OpByte, 1, 1, 7)}
	wantRegs(t, []int{32}, []int{4}, "", code, []int{32, 5})
	// The offset has no sign.
	code = []api.Instr{do(api.OpBase, 1, 0, 0), do(api.OpSub, 1, 1, 0), do(api.OpByte, 2, 1, 255)}
	wantRegs(t, []int{250, 0, -1}, nil, "", code, []int{250, -234, 0})
}

func TestP16Move(t *testing.T) {
	// To a block, and within it over itself.
	code := []api.Instr{do(api.OpMalloc, 1, 0), do(api.OpMove, 1, 2, 0), do(api.OpAdd, 4, 1, 3), do(api.OpMove, 4, 1, 5), do(api.OpLoad, 6, 1, 0), do(api.OpLoad, 7, 1, 8)}
	list := []int{32, 0, 16, 8, 0, 24}
	wantRegs(t, list, []int{0}, "", code, []int{32, unit + 144, 16, 8, unit + 152, 24, 32, 32})
	// Of nothing it may be anywhere.
	wantRegs(t, []int{-1, most, 0}, nil, "", []api.Instr{do(api.OpMove, 0, 1, 2)}, []int{-1, most, 0})
}
