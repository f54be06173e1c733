package granule

import "granule/api"

const (
	staticTag   = 0
	staticBegin = api.Granule // behind the one granule that is not there
)

// slot is a slot with what is told of its last block.
type slot struct {
	state int // api.Virgin, api.Live or api.Freed
	tag   int // the last tag, 0 while virgin: Pick takes nothing away for 0
	bytes int // the length of the block
	rest  int // how many more frees of its class the slot rests for; 0 unless freed
	alloc int // the Alloc site
	gone  int // the Gone site, 0 unless freed
}

// had tells if a tag is the slot's last; a virgin slot has none, so not even 0 is.
func (s slot) had(tag int) bool {
	return s.state != api.Virgin && s.tag == tag
}

// class is the slots of one length, one behind the other.
type class struct {
	begin int // the address of slot 0
	bytes int // the length of each slot
	slots []slot
}

func newClass(c api.Class, begin int) class {
	k := class{begin: begin, bytes: c.Granules * api.Granule, slots: make([]slot, c.Slots)}
	for i := 0; i < len(k.slots); i++ {
		k.slots[i].state = api.Virgin
	}
	return k
}

// slotBegin is the address at which a slot begins; that of the slot behind the last is the class's end.
func (k *class) slotBegin(i int) int {
	return k.begin + i*k.bytes
}

func (k *class) has(addr int) bool {
	end := k.slotBegin(len(k.slots))
	return addr >= k.begin && addr < end
}

// lastTag is 0 for a slot that there is not, as for a virgin one.
func (k *class) lastTag(i int) int {
	if i < 0 || i >= len(k.slots) {
		return 0
	}
	return k.slots[i].tag
}

func (h *Heap) inStatic(addr int) bool {
	return addr >= staticBegin && addr < staticBegin+h.static*api.Granule
}

// slotAt tells the class and the slot in which an address lies; the class is -1 if it lies in none.
func (h *Heap) slotAt(addr int) (int, int) {
	for n := 0; n < len(h.classes); n++ {
		k := h.classes[n]
		// A class that has an address has slots of more than 0 bytes, so the division is safe.
		if k.has(addr) {
			return n, (addr - k.begin) / k.bytes
		}
	}
	return -1, 0
}
