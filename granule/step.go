package granule

import "granule/api"

// do does an instruction (P16).
func (m *machine) do(x api.Instr) {
	switch x.Op {
	case api.OpHalt, api.OpJump, api.OpZero:
		m.doTurn(x)
	case api.OpSet, api.OpBase, api.OpAdd, api.OpSub, api.OpLess, api.OpSame:
		m.regs[x.A] = m.result(x)
	case api.OpIn:
		b := m.hear()
		m.regs[x.A] = b
	case api.OpOut:
		m.out = append(m.out, byte(m.regs[x.A]))
	case api.OpMalloc:
		m.doMalloc(x)
	case api.OpFree:
		m.doFree(x)
	case api.OpRealloc:
		m.doRealloc(x)
	case api.OpUsable:
		m.doUsable(x)
	case api.OpLoad:
		m.doLoad(x, 8)
	case api.OpByte:
		m.doLoad(x, 1)
	case api.OpStore:
		m.doStore(x, 8)
	case api.OpPut:
		m.doStore(x, 1)
	case api.OpMove:
		m.doMove(x)
	}
}

func (m *machine) doTurn(x api.Instr) {
	switch x.Op {
	case api.OpHalt:
		m.end = api.EndHalt
		m.exit = m.regs[x.A]
	case api.OpJump:
		m.next = x.A
	case api.OpZero:
		if m.regs[x.A] == 0 {
			m.next = x.B
		}
	}
}

// result is what the register A becomes by an instruction that needs neither heap nor input.
func (m *machine) result(x api.Instr) int {
	// In these two B and C are bytes, which may not be taken for the numbers of registers.
	switch x.Op {
	case api.OpSet:
		return 256*x.B + x.C
	case api.OpBase:
		return staticBegin + 256*x.B + x.C
	}
	b := m.regs[x.B]
	c := m.regs[x.C]
	switch x.Op {
	case api.OpAdd:
		return b + c
	case api.OpSub:
		return b - c
	case api.OpLess:
		return oneIf(b < c)
	}
	return oneIf(b == c)
}

func oneIf(yes bool) int {
	if yes {
		return 1
	}
	return 0
}

func (m *machine) doMalloc(x api.Instr) {
	d, ok := m.draw()
	if !ok {
		return
	}
	// Malloc has no errors but ErrSize and ErrFull, and with both the pointer is 0.
	p, _ := m.heap.Malloc(m.regs[x.B], d, m.pc)
	m.regs[x.A] = p
}

func (m *machine) doFree(x api.Instr) {
	p := m.regs[x.A]
	err := m.heap.Free(p, m.pc)
	if err != api.OK {
		m.blame(p)
	}
}

func (m *machine) doRealloc(x api.Instr) {
	d, ok := m.draw()
	if !ok {
		return
	}
	old := m.regs[x.B]
	p, err := m.heap.Realloc(old, m.regs[x.C], d, m.pc)
	if err != api.OK && err != api.ErrSize && err != api.ErrFull {
		m.blame(old)
		return
	}
	m.regs[x.A] = p
}

func (m *machine) doUsable(x api.Instr) {
	p := m.regs[x.B]
	n, err := m.heap.Usable(p)
	if err != api.OK {
		m.blame(p)
		return
	}
	m.regs[x.A] = n
}

func (m *machine) doLoad(x api.Instr, width int) {
	p := m.regs[x.B] + x.C
	value, err := m.heap.Load(p, width)
	if err != api.OK {
		m.explain(p, width)
		return
	}
	m.regs[x.A] = value
}

func (m *machine) doStore(x api.Instr, width int) {
	p := m.regs[x.A] + x.C
	err := m.heap.Store(p, width, m.regs[x.B])
	if err != api.OK {
		m.explain(p, width)
	}
}

func (m *machine) doMove(x api.Instr) {
	to := m.regs[x.A]
	from := m.regs[x.B]
	n := m.regs[x.C]
	err := m.heap.Move(to, from, n)
	if err == api.OK {
		return
	}
	// Move names no side: it is the one that is refused first.
	if m.heap.access(from, n) != api.OK {
		m.explain(from, n)
	} else {
		m.explain(to, n)
	}
}

// blame ends the run by a pointer that has no block. What was refused changed nothing, so it is told as it was.
func (m *machine) blame(p int) {
	r := m.heap.Blame(p)
	m.fault(r)
}

// explain ends the run by an access that was refused.
func (m *machine) explain(p int, n int) {
	r := m.heap.Explain(p, n)
	m.fault(r)
}
