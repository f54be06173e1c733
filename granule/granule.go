// Package granule: a heap whose memory is tagged, and a small machine that runs on it: see DOC.md.
package granule

import "granule/api"

// Heap is a heap with its memory.
type Heap struct {
	static  int // granules of static memory
	rest    int // how many frees of its class a freed slot rests for
	classes []class
	bytes   []byte // one for each address; those that are not there stay unused
}

// New makes a heap (P3).
func New(c api.Conf) (*Heap, api.Errno) {
	if !validConf(c) {
		return nil, api.ErrConf
	}
	h := &Heap{static: c.Static, rest: c.Rest}
	begin := (c.Static + 2) * api.Granule
	for i := 0; i < len(c.Classes); i++ {
		k := newClass(c.Classes[i], begin)
		h.classes = append(h.classes, k)
		begin = k.slotBegin(len(k.slots)) + api.Granule
	}
	h.bytes = make([]byte, begin)
	return h, api.OK
}

// Tag tells the tag of the memory at an address (P4).
func (h *Heap) Tag(addr int) int {
	if h.inStatic(addr) {
		return staticTag
	}
	n, i := h.slotAt(addr)
	if n < 0 {
		return api.NoTag
	}
	s := h.classes[n].slots[i]
	begin := h.classes[n].slotBegin(i)
	if s.state == api.Live && addr < begin+s.bytes {
		return s.tag
	}
	return api.Poison
}

// Pick chooses the tag of a block (P5).
func Pick(last int, left int, right int, draw int) int {
	var candidates [api.TopTag]int
	count := 0
	for tag := 1; tag <= api.TopTag; tag++ {
		if tag != last && tag != left && tag != right {
			candidates[count] = tag
			count++
		}
	}
	d := draw % api.DrawRange
	if d < 0 {
		d += api.DrawRange
	}
	// Three numbers take away three tags at most, so count is never 0.
	return candidates[d%count]
}

// Malloc gives out a block (P6).
func (h *Heap) Malloc(size int, draw int, site int) (int, api.Errno) {
	n := h.classFor(size)
	if n < 0 {
		return 0, api.ErrSize
	}
	i := h.classes[n].openSlot()
	if i < 0 {
		return 0, api.ErrFull
	}
	tag := h.classes[n].pickTag(i, draw)
	length := wholeGranules(size)
	begin := h.classes[n].slotBegin(i)
	h.clear(begin, length)
	h.classes[n].slots[i] = slot{state: api.Live, tag: tag, bytes: length, alloc: site}
	return tag*api.TagUnit + begin, api.OK
}

// Free takes a block back (P7).
func (h *Heap) Free(p int, site int) api.Errno {
	if p == 0 {
		return api.OK
	}
	n, i, err := h.blockOf(p)
	if err != api.OK {
		return err
	}
	h.classes[n].freeSlot(i, h.rest, site)
	return api.OK
}

// Realloc gives out a block in the place of another (P8).
func (h *Heap) Realloc(p int, size int, draw int, site int) (int, api.Errno) {
	if p == 0 {
		return h.Malloc(size, draw, site)
	}
	n, i, err := h.blockOf(p)
	if err != api.OK {
		return 0, err
	}
	q, err := h.Malloc(size, draw, site)
	if err != api.OK {
		return 0, err
	}
	both := wholeGranules(size)
	if both > h.classes[n].slots[i].bytes {
		both = h.classes[n].slots[i].bytes
	}
	h.copyBytes(q%api.TagUnit, p%api.TagUnit, both)
	h.classes[n].freeSlot(i, h.rest, site)
	return q, api.OK
}

// Usable tells how many bytes a block has (P8).
func (h *Heap) Usable(p int) (int, api.Errno) {
	n, i, err := h.blockOf(p)
	if err != api.OK {
		return 0, err
	}
	return h.classes[n].slots[i].bytes, api.OK
}

// Load reads a number (P10).
func (h *Heap) Load(p int, width int) (int, api.Errno) {
	err := h.accessNumber(p, width)
	if err != api.OK {
		return 0, err
	}
	return h.number(p%api.TagUnit, width), api.OK
}

// Store writes a number (P10).
func (h *Heap) Store(p int, width int, value int) api.Errno {
	err := h.accessNumber(p, width)
	if err != api.OK {
		return err
	}
	h.setNumber(p%api.TagUnit, width, value)
	return api.OK
}

// Move copies bytes (P11).
func (h *Heap) Move(to int, from int, n int) api.Errno {
	err := h.access(from, n)
	if err != api.OK {
		return err
	}
	err = h.access(to, n)
	if err != api.OK {
		return err
	}
	// An access of no bytes is OK at wild pointers too, which have no address to copy from.
	if n > 0 {
		h.copyBytes(to%api.TagUnit, from%api.TagUnit, n)
	}
	return api.OK
}

// Explain tells what an access finds (P12).
func (h *Heap) Explain(p int, n int) api.Report {
	addr, err := h.decide(p, n)
	if err != api.ErrMap && err != api.ErrTag {
		return api.Report{Err: err}
	}
	return h.report(err, addr, p/api.TagUnit)
}

// Blame tells what a Free finds (P12).
func (h *Heap) Blame(p int) api.Report {
	_, _, err := h.blockOf(p)
	if err == api.OK || err == api.ErrWild {
		return api.Report{Err: err}
	}
	return h.report(err, p%api.TagUnit, p/api.TagUnit)
}

// Read tells which program an image is (P14).
func Read(image string) (api.Program, api.Errno) {
	s := scanner{image: image}
	p := s.program()
	if s.failed || s.at != len(image) || !validProgram(p) {
		return api.Program{}, api.ErrImage
	}
	return p, api.OK
}

// Write makes a program's image (P14).
func Write(p api.Program) (string, api.Errno) {
	if !validProgram(p) {
		return "", api.ErrImage
	}
	return imageOf(p), api.OK
}

// Run runs an image (P15, P16).
func Run(image string, input string, draws []int, fuel int) api.Outcome {
	p, err := Read(image)
	if err != api.OK {
		return api.Outcome{End: api.EndImage}
	}
	m := newMachine(p, input, draws)
	m.run(fuel)
	return m.outcome()
}
