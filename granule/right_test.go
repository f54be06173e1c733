package granule

import (
	"strings"
	"testing"

	"granule/api"
)

// someDraws is a list of draws that is another for every seed.
func someDraws(seed int, n int) []int {
	list := make([]int, n)
	r := &numbers{uint64(seed)}
	for i := range list {
		list[i] = seed
		if seed > 14 {
			list[i] = r.next(1<<31) - 1<<30
		}
	}
	return list
}

// reverser keeps the input as a list of blocks, each with the pointer of the one ahead of it, and puts it out from the
// end on; when there is no block left for a byte it puts out ! instead.
func reverser(slots int) api.Program {
	return api.Program{Conf: api.Conf{Static: 1, Rest: 1, Classes: classes(1, slots)}, Data: "!\x01", Code: []api.Instr{
		do(api.OpBase, 7, 0, 0),
		do(api.OpByte, 6, 7, 1),
		do(api.OpSet, 0, 0, 9),
		do(api.OpIn, 1),
		do(api.OpAdd, 2, 1, 6),
		do(api.OpZero, 2, 14), // the input is at its end
		do(api.OpMalloc, 3, 0),
		do(api.OpZero, 3, 12),
		do(api.OpStore, 3, 4, 0),
		do(api.OpPut, 3, 1, 8),
		do(api.OpAdd, 4, 3, 5),
		do(api.OpJump, 3),
		do(api.OpByte, 2, 7, 0), // no block is left
		do(api.OpJump, 21),
		do(api.OpZero, 4, 20), // the list is put out
		do(api.OpByte, 1, 4, 8),
		do(api.OpOut, 1),
		do(api.OpLoad, 3, 4, 0),
		do(api.OpFree, 4),
		do(api.OpJump, 23),
		do(api.OpHalt, 5),
		do(api.OpOut, 2), // the mark is put out
		do(api.OpJump, 3),
		do(api.OpAdd, 4, 3, 5), // one block further
		do(api.OpJump, 14),
	}}
}

func TestP17AListOfBlocksIsPutOutWhateverTheDraws(t *testing.T) {
	for slots := 1; slots <= 16; slots++ {
		image := mustWrite(t, reverser(slots))
		input := "sixteen letters or more"
		var back []byte
		for i := slots - 1; i >= 0; i-- {
			back = append(back, input[i])
		}
		want := strings.Repeat("!", len(input)-slots) + string(back)
		for seed := 0; seed < 60; seed++ {
			o := Run(image, input, someDraws(seed, len(input)), most)
			if o.End != api.EndHalt || o.Out != want || o.Pc != 20 || o.Draws != len(input) {
				t.Fatalf("%d slots, draws of %d: %+v, want %q", slots, seed, o, want)
			}
		}
	}
}

// kind tells what a register or a byte of memory holds: a part of the pointer of a block, or (if the block is 0) a plain number.
type kind struct{ block, part int }

// live is a live block as its maker knows it.
type live struct{ addr, bytes int }

// maker makes a program that does only what P17 allows: it follows along, with draws that are all 0, what its
// registers and its memory hold. Register 7 points to static memory, register 6 is a number for its own use.
type maker struct {
	r      *numbers
	w      *byWords
	code   []api.Instr
	regs   [8]kind
	bytes  map[int]kind
	blocks map[int]live
	count  int
}

func (m *maker) emit(x api.Instr) {
	m.w.o.Pc = len(m.code)
	m.code = append(m.code, x)
	m.w.draws = []int{0}
	m.w.do(x)
}

// plain is a register of 0 to 5 that holds a number, 6 if there is none.
func (m *maker) plain() int {
	i := m.r.next(6)
	if m.regs[i].block != 0 {
		return 6
	}
	return i
}

// pointer is a register that holds the pointer of a live block or static memory, and how many bytes are there.
func (m *maker) pointer() (int, int, int) {
	i := m.r.next(6)
	if b, ok := m.blocks[m.regs[i].block]; ok {
		return i, b.addr, b.bytes
	}
	return 7, 16, 16 * m.w.y.conf.Static
}

func (m *maker) set(reg int, n int) {
	m.emit(do(api.OpSet, reg, n/256, n%256))
	m.regs[reg] = kind{}
}

// keep notes what a register holds behind a Malloc or Realloc.
func (m *maker) keep(reg int) bool {
	m.regs[reg] = kind{}
	p := m.w.r[reg]
	if p == 0 {
		return false
	}
	m.count++
	m.regs[reg].block = m.count
	n, _ := m.w.y.usable(p)
	m.blocks[m.count] = live{p % unit, n}
	return true
}

func (m *maker) malloc() {
	reg := m.r.next(6)
	m.set(6, m.r.next(45))
	m.emit(do(api.OpMalloc, reg, 6))
	if m.keep(reg) {
		m.copyKinds(m.blocks[m.count].addr, nil, m.blocks[m.count].bytes)
	}
}

func (m *maker) free() {
	i := m.r.next(6)
	_, ok := m.blocks[m.regs[i].block]
	if ok || m.regs[i].block == 0 && m.w.r[i] == 0 {
		m.emit(do(api.OpFree, i))
		delete(m.blocks, m.regs[i].block)
	}
}

func (m *maker) realloc() {
	to, from := m.r.next(6), m.r.next(6)
	old, ok := m.blocks[m.regs[from].block]
	if !ok {
		return
	}
	was := m.regs[from].block
	m.set(6, m.r.next(45))
	kinds := m.kindsAt(old.addr, old.bytes)
	m.emit(do(api.OpRealloc, to, from, 6))
	if m.keep(to) {
		m.copyKinds(m.blocks[m.count].addr, kinds, m.blocks[m.count].bytes)
		delete(m.blocks, was)
	}
}

func (m *maker) kindsAt(addr int, n int) []kind {
	var list []kind
	for i := 0; i < n; i++ {
		list = append(list, m.bytes[addr+i])
	}
	return list
}

func (m *maker) copyKinds(addr int, list []kind, n int) {
	for i := 0; i < n; i++ {
		delete(m.bytes, addr+i)
		if i < len(list) {
			m.bytes[addr+i] = list[i]
		}
	}
}

// whole is what eight bytes hold together, if they are all plain or all of one pointer.
func whole(list []kind) (kind, bool) {
	for i, k := range list {
		if k.block != list[0].block || k.block != 0 && k.part != i {
			return kind{}, false
		}
	}
	return list[0], true
}

func (m *maker) load() {
	from, addr, n := m.pointer()
	to := m.r.next(6)
	width := []int{8, 1}[m.r.next(2)]
	if n < width {
		return
	}
	at := m.r.next(n - width + 1)
	k, ok := whole(m.kindsAt(addr+at, width))
	if !ok || width == 1 && k.block != 0 {
		return
	}
	m.emit(do([]int{api.OpByte, api.OpLoad}[width/8], to, from, at))
	m.regs[to] = k
}

func (m *maker) store() {
	to, addr, n := m.pointer()
	from := m.r.next(6)
	width := []int{8, 8, 1}[m.r.next(3)]
	if n < width || width == 1 && m.regs[from].block != 0 {
		return
	}
	at := m.r.next(n - width + 1)
	m.emit(do([]int{api.OpPut, api.OpStore}[width/8], to, from, at))
	for i := 0; i < width; i++ {
		m.copyKinds(addr+at+i, []kind{{m.regs[from].block, i}}, 1)
	}
}

func (m *maker) move() {
	to, toAddr, toBytes := m.pointer()
	from, fromAddr, fromBytes := m.pointer()
	n := m.r.next(min(toBytes, fromBytes) + 1)
	m.set(6, n)
	m.emit(do(api.OpMove, to, from, 6))
	m.copyKinds(toAddr, m.kindsAt(fromAddr, n), n)
}

func (m *maker) number() {
	reg := m.r.next(6)
	switch m.r.next(7) {
	case 0:
		m.set(reg, m.r.next(65536))
	case 1:
		m.emit(do(api.OpIn, reg))
		m.regs[reg] = kind{}
	case 2, 3:
		m.emit(do(api.OpOut, m.plain()))
	case 4:
		m.emit(do(api.OpAdd+m.r.next(4), 6, m.plain(), m.plain()))
	case 5:
		// The difference of a pointer from itself is none of its number.
		m.emit(do(api.OpSub, 6, reg, reg))
	case 6:
		if from, _, _ := m.pointer(); from != 7 {
			m.emit(do(api.OpUsable, 6, from))
			m.emit(do(api.OpOut, 6))
		}
	}
}

// rightProgram is a program of P17's last sentence, of some 200 instructions.
func rightProgram(c api.Conf, seed uint64) api.Program {
	m := &maker{r: &numbers{seed}, bytes: map[int]kind{}, blocks: map[int]live{}}
	m.w = &byWords{y: &history{conf: c, bytes: map[int]byte{}}, input: "some input"}
	m.emit(do(api.OpBase, 7, 0, 0))
	for len(m.code) < 200 && m.w.o.End == 0 {
		switch m.r.next(14) {
		case 0, 1:
			m.malloc()
		case 2:
			m.free()
		case 3:
			m.realloc()
		case 4, 5, 6:
			m.load()
		case 7, 8, 9:
			m.store()
		case 10:
			m.move()
		case 11, 12, 13:
			m.number()
		}
	}
	m.emit(do(api.OpHalt, m.plain()))
	return api.Program{Conf: c, Code: m.code}
}

func TestP17ARightProgramPutsOutTheSameWhateverTheDraws(t *testing.T) {
	said, blocks := 0, 0
	for seed := uint64(1); seed <= 60; seed++ {
		for _, c := range []api.Conf{exampleConf(), {Static: 3, Rest: 2, Classes: classes(1, 6, 2, 5, 3, 4)}, {Classes: classes(2, 3)}} {
			p := rightProgram(c, seed)
			image := mustWrite(t, p)
			want := Run(image, "some input", someDraws(0, 255), most)
			if want.End != api.EndHalt || want.Steps != len(p.Code) {
				t.Fatalf("%+v ends with %+v", p, want)
			}
			said += len(want.Out)
			blocks += want.Draws
			for n := 1; n < 25; n++ {
				wantOutcome(t, "the run with other draws", Run(image, "some input", someDraws(n, want.Draws), most), want)
			}
			want = api.Outcome{End: api.EndDraws, Draws: want.Draws - 1}
			if o := Run(image, "some input", someDraws(20, want.Draws), most); o.End != want.End || o.Draws != want.Draws {
				t.Fatalf("%+v with a draw too few ends with %+v", p, o)
			}
		}
	}
	if said < 1000 || blocks < 1000 {
		t.Errorf("the programs put out %d bytes and ask for %d blocks, which is too little", said, blocks)
	}
	t.Log(said, blocks)
}
