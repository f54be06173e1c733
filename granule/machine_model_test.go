package granule

import (
	"fmt"
	"testing"

	"granule/api"
)

// byWords is a second machine, on a heap that keeps its history alone.
type byWords struct {
	y     *history
	r     [8]int
	input string
	draws []int
	o     api.Outcome
}

// runByWords runs a valid program as P15 words it.
func runByWords(p api.Program, input string, draws []int, fuel int) api.Outcome {
	w := &byWords{y: &history{conf: p.Conf, bytes: map[int]byte{}}, input: input, draws: draws}
	for i, b := range []byte(p.Data) {
		w.y.bytes[16+i] = b
	}
	if fuel < 0 {
		fuel = 0
	}
	if fuel > 4096 {
		fuel = 4096
	}
	for next := 0; ; {
		w.o.Pc = next
		if next >= len(p.Code) {
			w.o.End = 2
			return w.o
		}
		if w.o.Steps == fuel {
			w.o.End = 3
			return w.o
		}
		w.o.Steps++
		next = w.do(p.Code[next])
		if w.o.End != 0 {
			return w.o
		}
	}
}

// draw is nil if none is left.
func (w *byWords) draw() *int {
	if len(w.draws) == 0 {
		w.o.End = 4
		return nil
	}
	d := &w.draws[0]
	w.draws = w.draws[1:]
	w.o.Draws++
	return d
}

// blame and explain end the run if there was an error.
func (w *byWords) blame(err api.Errno, p int) bool {
	if err != api.OK {
		w.o.End, w.o.Report = 5, w.y.blame(p)
	}
	return err != api.OK
}

func (w *byWords) explain(err api.Errno, p int, n int) bool {
	if err != api.OK {
		w.o.End, w.o.Report = 5, w.y.explain(p, n)
	}
	return err != api.OK
}

// do answers the number of the next instruction.
func (w *byWords) do(x api.Instr) int {
	site := w.o.Pc
	a, b, c := w.r[x.A&7], w.r[x.B&7], w.r[x.C&7]
	switch x.Op {
	case 0:
		w.o.End, w.o.Code = 2, a
	case 1:
		w.r[x.A] = x.B<<8 | x.C
	case 2:
		w.r[x.A] = int(uint64(b) + uint64(c))
	case 3:
		w.r[x.A] = int(uint64(b) - uint64(c))
	case 4:
		w.r[x.A] = ifTrue(b < c)
	case 5:
		w.r[x.A] = ifTrue(b == c)
	case 6:
		return x.A
	case 7:
		if a == 0 {
			return x.B
		}
	case 8:
		w.r[x.A] = -1
		if w.input != "" {
			w.r[x.A] = int(w.input[0])
			w.input = w.input[1:]
		}
	case 9:
		w.o.Out += string([]byte{byte(a)})
	case 10:
		w.r[x.A] = 16 + x.B<<8 + x.C
	case 11:
		if d := w.draw(); d != nil {
			w.r[x.A], _ = w.y.malloc(b, *d, site)
		}
	case 12:
		w.blame(w.y.free(a, site), a)
	case 13:
		if d := w.draw(); d != nil {
			p, err := w.y.realloc(b, c, *d, site)
			if err == api.ErrSize || err == api.ErrFull || !w.blame(err, b) {
				w.r[x.A] = p
			}
		}
	case 14:
		if n, err := w.y.usable(b); !w.blame(err, b) {
			w.r[x.A] = n
		}
	case 15, 16:
		width := []int{8, 1}[x.Op-15]
		if n, err := w.y.load(b+x.C, width); !w.explain(err, b+x.C, width) {
			w.r[x.A] = n
		}
	case 17, 18:
		width := []int{8, 1}[x.Op-17]
		w.explain(w.y.store(a+x.C, width, b), a+x.C, width)
	case 19:
		if w.y.move(a, b, c) != api.OK && !w.explain(w.y.access(b, c), b, c) {
			w.explain(w.y.access(a, c), a, c)
		}
	}
	return site + 1
}

// someInstr most often does something sensible with registers 0 and 1 as sizes, 2 to 5 as pointers, 6 and 7 as numbers.
func someInstr(r *numbers, count int) api.Instr {
	size, pointer, number := r.next(2), 2+r.next(4), 6+r.next(2)
	other := 2 + r.next(4)
	offset := r.next(1 + r.next(20))
	switch r.next(22) {
	case 0, 1, 2, 3:
		return do(api.OpMalloc, pointer, size)
	case 4:
		return do(api.OpFree, pointer)
	case 5, 6:
		return do(api.OpRealloc, pointer, pointer, size)
	case 7:
		return do(api.OpRealloc, pointer, other, size)
	case 8:
		return do(api.OpUsable, number, pointer)
	case 9, 10:
		return do(api.OpLoad+r.next(2), number, pointer, offset)
	case 11, 12:
		return do(api.OpStore+r.next(2), pointer, number, offset)
	case 13:
		return do(api.OpMove, pointer, other, size)
	case 14:
		return do(api.OpSet, size, 0, 1+r.next(40))
	case 15:
		return do(api.OpBase, pointer, 0, r.next(40))
	case 16:
		return do([]int{api.OpIn, api.OpOut}[r.next(2)], number)
	case 17:
		return do(api.OpAdd+r.next(4), 2+r.next(6), r.next(8), r.next(8))
	case 18:
		return do(api.OpZero, r.next(8), r.next(count))
	case 19:
		return do(api.OpJump, r.next(count))
	}
	return anyInstr(r, count)
}

// anyInstr is any valid instruction.
func anyInstr(r *numbers, count int) api.Instr {
	op := r.next(20)
	var list [3]int
	for i := range list {
		letter := operandsByWords[op][i]
		for list[i] = r.next(256); !inRange(letter, list[i], count); {
			list[i] = r.next(8 + count)
			if letter == 'Z' {
				list[i] = 0
			}
		}
	}
	return do(op, list[:]...)
}

func TestP15P16RunsEndAsTheirHistorySays(t *testing.T) {
	confs := []api.Conf{
		exampleConf(),
		{Classes: classes(1, 1)},
		{Static: 2, Rest: 2, Classes: classes(2, 5, 4, 3)},
		{Static: 2, Rest: 0, Classes: classes(1, 4, 2, 4, 3, 4, 8, 4)},
		{Static: 16, Rest: 1, Classes: classes(3, 16)},
	}
	r := &numbers{5}
	ends, errs, longest := [6]int{}, [11]int{}, 0
	for round := 0; round < 12000; round++ {
		p := api.Program{Conf: confs[r.next(len(confs))], Code: make([]api.Instr, 1+r.next(60))}
		if p.Conf.Static > 0 {
			p.Data = asData(r.next(1<<30)<<40, 1-r.next(2))
		}
		for i := range p.Code {
			p.Code[i] = someInstr(r, len(p.Code))
		}
		// Sizes and blocks first, so that there is something to go wrong.
		begin := []api.Instr{do(api.OpSet, 0, 0, 1+r.next(40)), do(api.OpSet, 1, 0, 1+r.next(20)), do(api.OpIn, 6)}
		for i := r.next(4); i >= 0; i-- {
			begin = append(begin, do(api.OpMalloc, 2+i, r.next(2)))
		}
		copy(p.Code, begin)
		draws := make([]int, r.next(1+r.next(60)))
		for i := range draws {
			draws[i] = r.next(40000) - 20000
		}
		input := []string{"", "\x00", "abc", "\xff\x00\x80", "a long row of bytes"}[r.next(5)]
		fuel := r.next(300) - 2
		want := runByWords(p, input, draws, fuel)
		wantRun(t, p, input, draws, fuel, want)
		ends[want.End]++
		errs[want.Report.Err]++
		longest = max(longest, want.Steps)
	}
	said := fmt.Sprint(ends, errs, longest)
	for end := api.EndHalt; end <= api.EndFault; end++ {
		if ends[end] < 500 {
			t.Errorf("too few runs end in the way %d: %s", end, said)
		}
	}
	for err := api.ErrWild; err <= api.ErrTwice; err++ {
		if errs[err] < 50 {
			t.Errorf("too few runs end with the error %d: %s", err, said)
		}
	}
	t.Log(said)
}
