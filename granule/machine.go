package granule

import "granule/api"

// machine is a run of a valid program, so that the operands of its instructions need no second look.
type machine struct {
	heap   *Heap
	code   []api.Instr
	regs   [api.Regs]int
	input  string
	heard  int // bytes of the input that were taken
	draws  []int
	drawn  int // draws that were taken
	out    []byte
	pc     int // the instruction that is being done; between two steps, the next one
	next   int // the instruction to go on with
	steps  int
	end    int // 0 as long as the run goes on
	exit   int // what Halt said
	report api.Report
}

// newMachine makes a machine that stands ahead of a valid program's first instruction.
func newMachine(p api.Program, input string, draws []int) *machine {
	// A valid program has a valid configuration, so there is always a heap.
	h, _ := New(p.Conf)
	for i := 0; i < len(p.Data); i++ {
		h.bytes[staticBegin+i] = p.Data[i]
	}
	return &machine{heap: h, code: p.Code, input: input, draws: draws}
}

// run ends at every program: what goes on takes a step, and there are api.MaxFuel steps at most.
// Fuel below 0 is used up from the beginning on, as 0 is.
func (m *machine) run(fuel int) {
	if fuel > api.MaxFuel {
		fuel = api.MaxFuel
	}
	for m.end == 0 {
		if m.pc >= len(m.code) {
			m.end = api.EndHalt
		} else if m.steps >= fuel {
			m.end = api.EndFuel
		} else {
			m.step()
		}
	}
}

func (m *machine) step() {
	m.steps++
	m.next = m.pc + 1
	m.do(m.code[m.pc])
	// An instruction that ends the run is the one that the outcome names.
	if m.end == 0 {
		m.pc = m.next
	}
}

// hear is the next byte of the input, -1 if none is left.
func (m *machine) hear() int {
	if m.heard >= len(m.input) {
		return -1
	}
	b := m.input[m.heard]
	m.heard++
	return int(b)
}

// draw takes the next draw; if none is left it ends the run and answers false.
func (m *machine) draw() (int, bool) {
	if m.drawn >= len(m.draws) {
		m.end = api.EndDraws
		return 0, false
	}
	d := m.draws[m.drawn]
	m.drawn++
	return d, true
}

func (m *machine) fault(r api.Report) {
	m.end = api.EndFault
	m.report = r
}

func (m *machine) outcome() api.Outcome {
	return api.Outcome{
		End:    m.end,
		Code:   m.exit,
		Steps:  m.steps,
		Pc:     m.pc,
		Draws:  m.drawn,
		Out:    string(m.out),
		Report: m.report,
	}
}
