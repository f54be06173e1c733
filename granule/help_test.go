package granule

import (
	"fmt"
	"reflect"
	"testing"

	"granule/api"
)

const (
	unit  = api.TagUnit
	least = -1 << 63
	most  = 1<<63 - 1
)

// extremes are numbers at which sums, quotients and indexes go wrong most easily.
var extremes = []int{least, least + 1, -unit, -65536, -12012, -17, -16, -1, 0, 1, 15, 16, 17, 31, 32, 48, 64, 65535, 65536,
	unit - 1, unit, unit + 32, unit + 48, 15*unit + 48, 15*unit + 65535, 15*unit + 65536, 16 * unit, 16*unit + 48, 127 * unit, most - 1, most}

// classes makes classes out of pairs of granules and slots.
func classes(pairs ...int) []api.Class {
	var list []api.Class
	for i := 0; i+1 < len(pairs); i += 2 {
		list = append(list, api.Class{Granules: pairs[i], Slots: pairs[i+1]})
	}
	return list
}

// exampleConf is the configuration of the document's examples.
func exampleConf() api.Conf {
	return api.Conf{Static: 1, Rest: 1, Classes: classes(1, 2, 2, 1)}
}

func mustNew(t *testing.T, c api.Conf) *Heap {
	t.Helper()
	h, err := New(c)
	if h == nil || err != api.OK {
		t.Fatalf("New(%+v) = %v, %d, want a heap", c, h, err)
	}
	return h
}

func wantTag(t *testing.T, h *Heap, addr int, want int) {
	t.Helper()
	if got := h.Tag(addr); got != want {
		t.Errorf("Tag(%d) = %d, want %d", addr, got, want)
	}
}

func wantMalloc(t *testing.T, h *Heap, size int, draw int, site int, want int, wantErr api.Errno) {
	t.Helper()
	if got, err := h.Malloc(size, draw, site); got != want || err != wantErr {
		t.Fatalf("Malloc(%d, %d, %d) = %d, %d, want %d, %d", size, draw, site, got, err, want, wantErr)
	}
}

func wantFree(t *testing.T, h *Heap, p int, site int, want api.Errno) {
	t.Helper()
	if err := h.Free(p, site); err != want {
		t.Fatalf("Free(%d, %d) = %d, want %d", p, site, err, want)
	}
}

func wantRealloc(t *testing.T, h *Heap, p int, size int, draw int, site int, want int, wantErr api.Errno) {
	t.Helper()
	if got, err := h.Realloc(p, size, draw, site); got != want || err != wantErr {
		t.Fatalf("Realloc(%d, %d, %d, %d) = %d, %d, want %d, %d", p, size, draw, site, got, err, want, wantErr)
	}
}

func wantUsable(t *testing.T, h *Heap, p int, want int, wantErr api.Errno) {
	t.Helper()
	if got, err := h.Usable(p); got != want || err != wantErr {
		t.Fatalf("Usable(%d) = %d, %d, want %d, %d", p, got, err, want, wantErr)
	}
}

func wantLoad(t *testing.T, h *Heap, p int, width int, want int, wantErr api.Errno) {
	t.Helper()
	if got, err := h.Load(p, width); got != want || err != wantErr {
		t.Fatalf("Load(%d, %d) = %d, %d, want %d, %d", p, width, got, err, want, wantErr)
	}
}

func wantStore(t *testing.T, h *Heap, p int, width int, value int, want api.Errno) {
	t.Helper()
	if err := h.Store(p, width, value); err != want {
		t.Fatalf("Store(%d, %d, %d) = %d, want %d", p, width, value, err, want)
	}
}

func wantMove(t *testing.T, h *Heap, to int, from int, n int, want api.Errno) {
	t.Helper()
	if err := h.Move(to, from, n); err != want {
		t.Fatalf("Move(%d, %d, %d) = %d, want %d", to, from, n, err, want)
	}
}

// wantReport takes an empty list for none.
func wantReport(t *testing.T, what string, got api.Report, want api.Report) {
	t.Helper()
	if len(got.Near) == 0 && len(want.Near) == 0 {
		got.Near, want.Near = nil, nil
	}
	if !reflect.DeepEqual(got, want) {
		t.Fatalf("%s = %+v, want %+v", what, got, want)
	}
}

func wantExplain(t *testing.T, h *Heap, p int, n int, want api.Report) {
	t.Helper()
	wantReport(t, fmt.Sprintf("Explain(%d, %d)", p, n), h.Explain(p, n), want)
}

func wantBlame(t *testing.T, h *Heap, p int, want api.Report) {
	t.Helper()
	wantReport(t, fmt.Sprintf("Blame(%d)", p), h.Blame(p), want)
}

// wantBytes looks at n bytes from an address on: those of the list, and behind them only zeros.
func wantBytes(t *testing.T, h *Heap, addr int, n int, list ...byte) {
	t.Helper()
	for i := 0; i < n; i++ {
		want := byte(0)
		if i < len(list) {
			want = list[i]
		}
		if h.bytes[addr+i] != want {
			t.Fatalf("the byte at %d is %d, want %d", addr+i, h.bytes[addr+i], want)
		}
	}
}

// fill writes 1, 2, 3, .. into n bytes.
func fill(h *Heap, addr int, n int) {
	for i := 0; i < n; i++ {
		h.bytes[addr+i] = byte(i + 1)
	}
}

// copyOf copies all that a heap keeps, so that a later change can be seen.
func copyOf(h *Heap) Heap {
	out := *h
	out.bytes = append([]byte(nil), h.bytes...)
	out.classes = append([]class(nil), h.classes...)
	for i := range out.classes {
		out.classes[i].slots = append([]slot(nil), h.classes[i].slots...)
	}
	return out
}

func wantUnchanged(t *testing.T, h *Heap, was Heap, what string) {
	t.Helper()
	if !reflect.DeepEqual(*h, was) {
		t.Fatalf("%s changed the heap from %+v to %+v", what, was, *h)
	}
}
