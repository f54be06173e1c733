package granule

import "granule/api"

// report tells of a refusal at an address under a pointer's tag (P12).
func (h *Heap) report(err api.Errno, addr int, want int) api.Report {
	found := h.Tag(addr)
	r := api.Report{Err: err, Addr: addr, Want: want, Found: found, State: api.Nowhere}
	if h.inStatic(addr) {
		r.State = api.InStatic
		return r
	}
	n, i := h.slotAt(addr)
	if n < 0 {
		return r
	}
	s := h.classes[n].slots[i]
	r.State = s.state
	r.Class = n
	r.Slot = i
	r.Alloc = s.alloc
	r.Gone = s.gone
	r.Near = h.classes[n].near(i, want)
	return r
}

// near lists those of a slot and its two neighbours that had a tag last.
func (k *class) near(i int, tag int) []api.Near {
	var list []api.Near
	for j := i - 1; j <= i+1; j++ {
		if j < 0 || j >= len(k.slots) {
			continue
		}
		s := k.slots[j]
		if s.had(tag) {
			list = append(list, api.Near{Slot: j, Alloc: s.alloc, Gone: s.gone})
		}
	}
	return list
}
