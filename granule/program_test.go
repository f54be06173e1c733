package granule

import (
	"reflect"
	"strings"
	"testing"

	"granule/api"
)

// smallImage is the image of the document's examples.
const smallImage = "GR\x00\x00\x01\x01\x01\x00\x01\x00\x00\x00\x00"

func smallProgram() api.Program {
	return api.Program{Conf: api.Conf{Classes: classes(1, 1)}, Code: []api.Instr{{Op: api.OpHalt}}}
}

// jumps is code of so many instructions, each of which may have any target.
func jumps(n int) []api.Instr {
	code := make([]api.Instr, n)
	for i := range code {
		code[i] = api.Instr{Op: api.OpJump, A: i}
	}
	return code
}

func wantWrite(t *testing.T, p api.Program, want string, wantErr api.Errno) {
	t.Helper()
	if got, err := Write(p); got != want || err != wantErr {
		t.Fatalf("Write(%+v) = %q, %d, want %q, %d", p, got, err, want, wantErr)
	}
}

func wantRead(t *testing.T, image string, want api.Program, wantErr api.Errno) {
	t.Helper()
	if got, err := Read(image); !reflect.DeepEqual(got, want) || err != wantErr {
		t.Fatalf("Read(%q) = %+v, %d, want %+v, %d", image, got, err, want, wantErr)
	}
}

// wantBoth holds Write and Read to a program and its image.
func wantBoth(t *testing.T, p api.Program, image string) {
	t.Helper()
	wantWrite(t, p, image, api.OK)
	wantRead(t, image, p, api.OK)
}

func wantNoImage(t *testing.T, image string) {
	t.Helper()
	wantRead(t, image, api.Program{}, api.ErrImage)
}

// imageByWords writes down the bytes of P14, whatever the program.
func imageByWords(p api.Program) string {
	numbers := []int{'G', 'R', p.Conf.Static, p.Conf.Rest, len(p.Conf.Classes)}
	for _, k := range p.Conf.Classes {
		numbers = append(numbers, k.Granules, k.Slots)
	}
	numbers = append(numbers, len(p.Data))
	for _, b := range []byte(p.Data) {
		numbers = append(numbers, int(b))
	}
	numbers = append(numbers, len(p.Code))
	for _, x := range p.Code {
		numbers = append(numbers, x.Op, x.A, x.B, x.C)
	}
	var out []byte
	for _, n := range numbers {
		out = append(out, byte(n))
	}
	return string(out)
}

// operandsByWords is P16's table, one row behind the other.
var operandsByWords = []string{"RZZ", "RBB", "RRR", "RRR", "RRR", "RRR", "TZZ", "RTZ", "RZZ", "RZZ",
	"RBB", "RRZ", "RZZ", "RRR", "RRZ", "RRB", "RRB", "RRB", "RRB", "RRR"}

// inRange tells if a number may stand for a letter of the table, in a program of so many instructions.
func inRange(letter byte, n int, count int) bool {
	limits := []int{'R', 8, 'B', 256, 'T', count, 'Z', 1}
	for i := 0; i < len(limits); i += 2 {
		if limits[i] == int(letter) {
			return n >= 0 && n < limits[i+1]
		}
	}
	return false
}

func TestP13TheOperandsOfEveryOperation(t *testing.T) {
	some := []int{least, -256, -1, 0, 1, 2, 3, 4, 6, 7, 8, 9, 15, 16, 254, 255, 256, 257, 512, 1 << 32, most}
	for op, letters := range operandsByWords {
		for _, count := range []int{1, 2, 4, 8, 20, 255} {
			for operand := 0; operand < 3; operand++ {
				for _, n := range some {
					p := smallProgram()
					p.Code = jumps(count)
					list := [3]int{}
					list[operand] = n
					p.Code[count/2] = api.Instr{Op: op, A: list[0], B: list[1], C: list[2]}
					if inRange(letters[operand], n, count) {
						wantBoth(t, p, imageByWords(p))
					} else {
						wantWrite(t, p, "", api.ErrImage)
					}
				}
			}
		}
	}
}

func TestP13EveryOperandAtItsGreatest(t *testing.T) {
	for op, letters := range operandsByWords {
		var list [3]int
		for i := range list {
			for inRange(letters[i], list[i]+1, 255) {
				list[i]++
			}
		}
		p := smallProgram()
		p.Code = jumps(255)
		p.Code[254] = api.Instr{Op: op, A: list[0], B: list[1], C: list[2]}
		wantBoth(t, p, imageByWords(p))
	}
}

func TestP13OperationsThatAreNone(t *testing.T) {
	for _, op := range []int{least, -256, -1, 20, 21, 128, 255, 256, 276, 1 << 32, most} {
		p := smallProgram()
		p.Code = append(jumps(1), api.Instr{Op: op})
		wantWrite(t, p, "", api.ErrImage)
		p.Code = append([]api.Instr{{Op: op}}, jumps(1)...)
		wantWrite(t, p, "", api.ErrImage)
	}
	for op := 20; op <= 255; op++ {
		wantNoImage(t, smallImage[:9]+string([]byte{byte(op), 0, 0, 0}))
	}
}

func TestP13TheNumberOfInstructions(t *testing.T) {
	for n := 1; n <= 255; n++ {
		p := smallProgram()
		p.Code = jumps(n)
		wantBoth(t, p, imageByWords(p))
	}
	for _, n := range []int{0, 256, 257, 511, 512, 1000} {
		p := smallProgram()
		p.Code = jumps(n)
		for i := range p.Code {
			p.Code[i].A = 0
		}
		wantWrite(t, p, "", api.ErrImage)
	}
	wantWrite(t, api.Program{Conf: smallProgram().Conf}, "", api.ErrImage)
	wantNoImage(t, "GR\x00\x00\x01\x01\x01\x00\x00")
}

func TestP13DataIsNoLongerThanStaticMemoryNor255(t *testing.T) {
	for static := 0; static <= 16; static++ {
		for _, n := range []int{0, 1, 15, 16, 17, 16*static - 1, 16 * static, 16*static + 1, 255, 256, 257, 272, 512} {
			if n < 0 {
				continue
			}
			p := smallProgram()
			p.Conf.Static = static
			p.Data = strings.Repeat("d", n)
			if n <= 16*static && n <= 255 {
				wantBoth(t, p, imageByWords(p))
			} else {
				wantWrite(t, p, "", api.ErrImage)
				if n <= 255 {
					wantNoImage(t, imageByWords(p))
				}
			}
		}
	}
}

func TestP13TheConfigurationMustBeValid(t *testing.T) {
	for _, c := range []api.Conf{
		{},
		{Static: 17, Classes: classes(1, 1)},
		{Static: -1, Classes: classes(1, 1)},
		{Static: 256, Classes: classes(1, 1)},
		{Rest: 17, Classes: classes(1, 1)},
		{Rest: -1, Classes: classes(1, 1)},
		{Rest: least, Classes: classes(1, 1)},
		{Classes: []api.Class{}},
		{Classes: classes(0, 1)},
		{Classes: classes(9, 1)},
		{Classes: classes(1, 0)},
		{Classes: classes(1, 17)},
		{Classes: classes(257, 257)},
		{Classes: classes(2, 1, 2, 1)},
		{Classes: classes(2, 1, 1, 1)},
		{Classes: classes(1, 1, 2, 1, 3, 1, 4, 1, 5, 1)},
		{Classes: make([]api.Class, 257)},
	} {
		p := smallProgram()
		p.Conf = c
		wantWrite(t, p, "", api.ErrImage)
		if h, err := New(c); h != nil || err != api.ErrConf {
			t.Errorf("New(%+v) is a heap, but Write refuses it", c)
		}
	}
	for _, b := range []string{"\x11\x00\x01\x01\x01", "\x00\x11\x01\x01\x01", "\x00\x00\x00", "\x00\x00\x00\x01\x01", "\x00\x00\x01\x00\x01",
		"\x00\x00\x01\x09\x01", "\x00\x00\x01\x01\x00", "\x00\x00\x01\x01\x11", "\x00\x00\x02\x01\x01\x01\x01", "\x00\x00\x02\x02\x01\x01\x01",
		"\xff\x00\x01\x01\x01", "\x00\xff\x01\x01\x01", "\x00\x00\x05\x01\x01\x02\x01\x03\x01\x04\x01\x05\x01"} {
		wantNoImage(t, "GR"+b+smallImage[7:])
	}
}

func TestP14ImagesWorkedOutByHand(t *testing.T) {
	wantBoth(t, smallProgram(), smallImage)
	wantBoth(t, smallProgram(), string([]byte{71, 82, 0, 0, 1, 1, 1, 0, 1, 0, 0, 0, 0}))
	p := api.Program{
		Conf: api.Conf{Static: 2, Rest: 3, Classes: classes(1, 16, 4, 5, 8, 2)},
		Data: "a\x00\xff\xc3\n",
		Code: []api.Instr{{Op: api.OpSet, A: 7, B: 255, C: 128}, {Op: api.OpZero, A: 1, B: 2}, {Op: api.OpMove, A: 3, B: 4, C: 5}},
	}
	wantBoth(t, p, "GR\x02\x03\x03\x01\x10\x04\x05\x08\x02\x05a\x00\xff\xc3\n\x03\x01\x07\xff\x80\x07\x01\x02\x00\x13\x03\x04\x05")
}

func TestP14EveryByteOfDataIsKept(t *testing.T) {
	for b := 0; b < 256; b++ {
		p := smallProgram()
		p.Conf.Static = 1
		p.Data = string([]byte{byte(b), 'x', byte(b)})
		wantBoth(t, p, imageByWords(p))
	}
}

// greatestProgram has the longest image that there is.
func greatestProgram() api.Program {
	p := api.Program{Conf: api.Conf{Static: 16, Rest: 16, Classes: classes(5, 16, 6, 16, 7, 16, 8, 16)}, Data: strings.Repeat("\xff", 255), Code: jumps(255)}
	for i := range p.Code {
		p.Code[i] = api.Instr{Op: api.OpSet, A: 7, B: 255, C: 255}
	}
	return p
}

func TestP14NothingIsMissingAndNothingStandsBehind(t *testing.T) {
	middle := api.Program{Conf: exampleConf(), Data: "abc", Code: jumps(3)}
	for _, p := range []api.Program{smallProgram(), middle, greatestProgram()} {
		image := imageByWords(p)
		wantBoth(t, p, image)
		for n := 0; n < len(image); n++ {
			wantNoImage(t, image[:n])
		}
		for _, behind := range []string{"\x00", "G", "\x00\x00\x00\x00", image, strings.Repeat("z", 100000)} {
			wantNoImage(t, image+behind)
		}
		wantNoImage(t, "\x00"+image)
	}
}

func TestP14TheHeadIsTheLettersGAndR(t *testing.T) {
	for a := 0; a < 256; a++ {
		for b := 0; b < 256; b++ {
			if a != 'G' || b != 'R' {
				wantNoImage(t, string([]byte{byte(a), byte(b)})+smallImage[2:])
			}
		}
	}
}

// TestP14ReadAnswersTheProgramThatIsWritten changes every byte of images to every other:
// what Read then takes must be written as those bytes, and what it refuses must not be.
func TestP14ReadAnswersTheProgramThatIsWritten(t *testing.T) {
	p := api.Program{Conf: api.Conf{Static: 1, Rest: 1, Classes: classes(1, 2, 2, 1)}, Data: "ab", Code: append(jumps(2), api.Instr{Op: api.OpLoad, A: 1, B: 2, C: 3})}
	for _, image := range []string{smallImage, imageByWords(p)} {
		taken := 0
		for i := range image {
			for b := 0; b < 256; b++ {
				changed := image[:i] + string([]byte{byte(b)}) + image[i+1:]
				got, err := Read(changed)
				if err == api.OK {
					taken++
					wantWrite(t, got, changed, api.OK)
				} else {
					wantNoImage(t, changed)
				}
			}
		}
		if taken < 2*len(image) {
			t.Errorf("of %q with one byte changed only %d are images", image, taken)
		}
	}
}

// TestP13P14ChangedNumbers holds Write to the words of P13 where one number of an image's program is another.
func TestP13P14ChangedNumbers(t *testing.T) {
	r := &numbers{7}
	for round := 0; round < 20000; round++ {
		c := api.Conf{Static: r.next(17), Rest: r.next(17), Classes: classes(1+r.next(2), 1+r.next(16), 2+r.next(7), 1+r.next(16))}
		p := api.Program{Conf: c, Data: strings.Repeat("q", r.next(16)*r.next(20)), Code: jumps(1 + r.next(9))}
		at := r.next(len(p.Code))
		p.Code[at] = api.Instr{Op: r.next(21), A: r.next(9), B: r.next(9), C: r.next(3) * r.next(130)}
		x := p.Code[at]
		_, confErr := New(c)
		valid := confErr == api.OK && len(p.Data) <= 16*c.Static && len(p.Data) <= 255 && x.Op < 20
		for i, n := range []int{x.A, x.B, x.C} {
			valid = valid && inRange(operandsByWords[x.Op%20][i], n, len(p.Code))
		}
		if valid {
			wantBoth(t, p, imageByWords(p))
		} else {
			wantWrite(t, p, "", api.ErrImage)
			if len(p.Data) <= 255 && x.C <= 255 {
				wantNoImage(t, imageByWords(p))
			}
		}
	}
}

func TestP1ReadAndWriteEndAtAllInputs(t *testing.T) {
	for _, n := range extremes {
		for _, m := range extremes {
			p, q := smallProgram(), smallProgram()
			p.Conf = api.Conf{Static: n, Rest: m, Classes: classes(n, m)}
			q.Code[0] = api.Instr{Op: n, A: m, B: n, C: m}
			for _, x := range []api.Program{p, q} {
				if image, err := Write(x); (image == "") != (err == api.ErrImage) || (image != "") != (err == api.OK) {
					t.Fatalf("Write(%+v) = %q, %d", x, image, err)
				}
			}
		}
	}
	wantWrite(t, api.Program{}, "", api.ErrImage)
	for _, b := range []string{"G", "R", "GR", "\x00", "\xff", "\x01", "GR\xff", "GR\x10\x10\x04"} {
		for _, n := range []int{0, 1, 2, 3, 4, 5, 13, 300, 1500, 300000} {
			wantNoImage(t, strings.Repeat(b, n))
			wantNoImage(t, "GR"+strings.Repeat(b, n))
		}
	}
	r := &numbers{3}
	for round := 0; round < 20000; round++ {
		noise := []byte("GR")
		for n := r.next(40); n > 0; n-- {
			noise = append(noise, byte(r.next(1+r.next(256))))
		}
		if p, err := Read(string(noise)); err == api.OK {
			wantWrite(t, p, string(noise), api.OK)
		}
	}
}

func TestP2ReadAndWriteKeepNothing(t *testing.T) {
	p := api.Program{Conf: exampleConf(), Data: "abc", Code: jumps(3)}
	spare := p.Code[:2]
	image := imageByWords(p)
	wantWrite(t, p, image, api.OK)
	if !reflect.DeepEqual(p, api.Program{Conf: exampleConf(), Data: "abc", Code: jumps(3)}) {
		t.Errorf("Write wrote into the program: %+v", p)
	}
	short := p
	short.Code = spare
	wantWrite(t, short, imageByWords(short), api.OK)
	if p.Code[2] != (api.Instr{Op: api.OpJump, A: 2}) {
		t.Errorf("Write wrote behind the code: %+v", p.Code)
	}
	first, _ := Read(image)
	second, _ := Read(image)
	spoilProgram(first)
	if !reflect.DeepEqual(second, p) {
		t.Errorf("writing into a program that was read changed another one to %+v", second)
	}
	spoilProgram(second)
	wantRead(t, image, p, api.OK)
}

// spoilProgram writes into the lists of a program, and into all of their spare room.
func spoilProgram(p api.Program) {
	code := p.Code[:cap(p.Code)]
	for i := range code {
		code[i] = api.Instr{Op: -99, A: -99, B: -99, C: -99}
	}
	list := p.Conf.Classes[:cap(p.Conf.Classes)]
	for i := range list {
		list[i] = api.Class{Granules: -99, Slots: -99}
	}
}
