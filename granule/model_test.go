package granule

import (
	"testing"

	"granule/api"
)

// event is a block given out of a slot, or freed.
type event struct {
	class, slot int
	freed       bool
	tag, bytes  int
	alloc, gone int
}

// history is a second heap that keeps nothing but what happened, and works all else out from it.
type history struct {
	conf   api.Conf
	events []event
	bytes  map[int]byte // what was written last at each address
}

func (y *history) begin(class int, slot int) int {
	at := 16 * (y.conf.Static + 2)
	for n := 0; n < class; n++ {
		at += 16 * (y.conf.Classes[n].Granules*y.conf.Classes[n].Slots + 1)
	}
	return at + 16*y.conf.Classes[class].Granules*slot
}

// last is the last event of a slot, and how many frees its class had since.
func (y *history) last(class int, slot int) (event, bool, int) {
	frees := 0
	for i := len(y.events) - 1; i >= 0; i-- {
		e := y.events[i]
		if e.class == class && e.slot == slot {
			return e, true, frees
		}
		if e.class == class && e.freed {
			frees++
		}
	}
	return event{}, false, frees
}

func (y *history) lastTag(class int, slot int) int {
	e, _, _ := y.last(class, slot)
	return e.tag
}

func (y *history) malloc(size int, draw int, site int) (int, api.Errno) {
	for n, k := range y.conf.Classes {
		if size < 1 || size > 16*k.Granules {
			continue
		}
		for i := 0; i < k.Slots; i++ {
			e, given, frees := y.last(n, i)
			if given && (!e.freed || frees < y.conf.Rest) {
				continue
			}
			tag := pickByWords(e.tag, y.lastTag(n, i-1), y.lastTag(n, i+1), draw)
			y.events = append(y.events, event{n, i, false, tag, (size + 15) / 16 * 16, site, 0})
			for at := 0; at < (size+15)/16*16; at++ {
				delete(y.bytes, y.begin(n, i)+at)
			}
			return tag*unit + y.begin(n, i), api.OK
		}
		return 0, api.ErrFull
	}
	return 0, api.ErrSize
}

// find is the last event of the live block of a pointer.
func (y *history) find(p int) (event, api.Errno) {
	if p < 0 || p>>56 > 15 || p&(1<<56-1) > 65535 {
		return event{}, api.ErrWild
	}
	for n, k := range y.conf.Classes {
		for i := 0; i < k.Slots; i++ {
			e, given, _ := y.last(n, i)
			if y.begin(n, i) != p&65535 || !given || e.tag != p>>56 {
				continue
			}
			if e.freed {
				return event{}, api.ErrTwice
			}
			return e, api.OK
		}
	}
	return event{}, api.ErrFree
}

func (y *history) free(p int, site int) api.Errno {
	if p == 0 {
		return api.OK
	}
	e, err := y.find(p)
	if err == api.OK {
		e.freed = true
		e.gone = site
		y.events = append(y.events, e)
	}
	return err
}

func (y *history) realloc(p int, size int, draw int, site int) (int, api.Errno) {
	if p == 0 {
		return y.malloc(size, draw, site)
	}
	old, err := y.find(p)
	if err != api.OK {
		return 0, err
	}
	q, err := y.malloc(size, draw, site)
	if err != api.OK {
		return 0, err
	}
	fresh, _ := y.find(q)
	for i := 0; i < old.bytes && i < fresh.bytes; i++ {
		y.bytes[q&65535+i] = y.bytes[p&65535+i]
	}
	return q, y.free(p, site)
}

func (y *history) usable(p int) (int, api.Errno) {
	e, err := y.find(p)
	return e.bytes, err
}

// decide is the error of an access, and the first address that is refused.
func (y *history) decide(p int, n int) (int, api.Errno) {
	if n < 0 || n > 65536 {
		return 0, api.ErrArg
	}
	if n > 0 && (p < 0 || p>>56 > 15 || p&(1<<56-1) > 65535) {
		return 0, api.ErrWild
	}
	tags := y.tags()
	for at := p & 65535; at < p&65535+n; at++ {
		g := at / 16
		if g >= len(tags) || tags[g] == api.NoTag {
			return at, api.ErrMap
		}
		if tags[g] == api.Poison || tags[g] != p>>56 {
			return at, api.ErrTag
		}
	}
	return 0, api.OK
}

func (y *history) access(p int, n int) api.Errno {
	_, err := y.decide(p, n)
	return err
}

func (y *history) explain(p int, n int) api.Report {
	addr, err := y.decide(p, n)
	if err == api.OK || err == api.ErrArg || err == api.ErrWild {
		return api.Report{Err: err}
	}
	return y.report(err, addr, p>>56)
}

func (y *history) blame(p int) api.Report {
	_, err := y.find(p)
	if err == api.OK || err == api.ErrWild {
		return api.Report{Err: err}
	}
	return y.report(err, p&65535, p>>56)
}

func (y *history) report(err api.Errno, addr int, want int) api.Report {
	r := api.Report{Err: err, Addr: addr, Want: want, Found: -1}
	if tags := y.tags(); addr/16 < len(tags) {
		r.Found = tags[addr/16]
	}
	if r.Found == 0 {
		r.State = 1
	}
	for n, k := range y.conf.Classes {
		for i := 0; i < k.Slots; i++ {
			if addr < y.begin(n, i) || addr >= y.begin(n, i+1) {
				continue
			}
			e, given, _ := y.last(n, i)
			r.State, r.Class, r.Slot, r.Alloc, r.Gone = 2, n, i, e.alloc, e.gone
			if given && e.freed {
				r.State = 4
			} else if given {
				r.State = 3
			}
			r.Near = y.near(n, i, want)
		}
	}
	return r
}

func (y *history) near(class int, slot int, tag int) []api.Near {
	var list []api.Near
	for i := slot - 1; i <= slot+1; i++ {
		if e, given, _ := y.last(class, i); given && e.tag == tag {
			list = append(list, api.Near{Slot: i, Alloc: e.alloc, Gone: e.gone})
		}
	}
	return list
}

func (y *history) load(p int, width int) (int, api.Errno) {
	if width != 1 && width != 2 && width != 4 && width != 8 {
		return 0, api.ErrArg
	}
	if err := y.access(p, width); err != api.OK {
		return 0, err
	}
	var value uint64
	for i := 0; i < width; i++ {
		value += uint64(y.bytes[p&65535+i]) << (8 * i)
	}
	return int(value), api.OK
}

func (y *history) store(p int, width int, value int) api.Errno {
	_, err := y.load(p, width)
	for i := 0; err == api.OK && i < width; i++ {
		y.bytes[p&65535+i] = byte(uint64(value) >> (8 * i))
	}
	return err
}

func (y *history) move(to int, from int, n int) api.Errno {
	if err := y.access(from, n); err != api.OK {
		return err
	}
	if err := y.access(to, n); err != api.OK {
		return err
	}
	var read []byte
	for i := 0; i < n; i++ {
		read = append(read, y.bytes[from&65535+i])
	}
	for i, b := range read {
		y.bytes[to&65535+i] = b
	}
	return api.OK
}

// tags lists the tag of every granule.
func (y *history) tags() []int {
	tags := freshTags(y.conf)
	for n, k := range y.conf.Classes {
		for i := 0; i < k.Slots; i++ {
			e, given, _ := y.last(n, i)
			for at := 0; given && !e.freed && at < e.bytes; at += 16 {
				tags[(y.begin(n, i)+at)/16] = e.tag
			}
		}
	}
	return tags
}

// numbers is a plain rule for numbers that look like none.
type numbers struct{ state uint64 }

func (r *numbers) next(n int) int {
	r.state = r.state*6364136223846793005 + 1442695040888963407
	return int(r.state>>33) % n
}

// somePointer is most often one that was given out, now and then bent a little.
func somePointer(r *numbers, given []int) int {
	p := 0
	if len(given) > 0 {
		p = given[r.next(len(given))]
	}
	switch r.next(12) {
	case 0:
		return p + unit*r.next(17)
	case 1:
		return p + r.next(33) - 16
	case 2:
		return extremes[r.next(len(extremes))]
	}
	return p
}

// player makes the same calls on a heap and on its history.
type player struct {
	h     *Heap
	y     *history
	r     *numbers
	given []int
}

func (g *player) somePlace() int {
	p := somePointer(g.r, g.given)
	switch g.r.next(3) {
	case 0:
		return p + g.r.next(40)
	case 1:
		return 16 + g.r.next(16*g.y.conf.Static+2)
	}
	return p
}

func (g *player) keep(p int, err api.Errno) {
	if err == api.OK {
		g.given = append(g.given, p)
	}
}

func (g *player) block(t *testing.T, step int) {
	t.Helper()
	list := g.y.conf.Classes
	size, draw := g.r.next(16*list[len(list)-1].Granules+4)-1, g.r.next(40000)-20000
	p := somePointer(g.r, g.given)
	switch g.r.next(6) {
	case 0, 1:
		want, wantErr := g.y.malloc(size, draw, step)
		wantMalloc(t, g.h, size, draw, step, want, wantErr)
		g.keep(want, wantErr)
	case 2, 3:
		wantFree(t, g.h, p, step, g.y.free(p, step))
	case 4:
		want, wantErr := g.y.realloc(p, size, draw, step)
		wantRealloc(t, g.h, p, size, draw, step, want, wantErr)
		g.keep(want, wantErr)
	case 5:
		want, wantErr := g.y.usable(p)
		wantUsable(t, g.h, p, want, wantErr)
	}
}

func (g *player) touch(t *testing.T) {
	t.Helper()
	p, q := g.somePlace(), g.somePlace()
	width := []int{1, 2, 4, 8, 8, 4, 2, 1, 3, 0}[g.r.next(10)]
	switch g.r.next(3) {
	case 0:
		value := int(g.r.state)
		wantStore(t, g.h, p, width, value, g.y.store(p, width, value))
	case 1:
		want, wantErr := g.y.load(p, width)
		wantLoad(t, g.h, p, width, want, wantErr)
	case 2:
		n := g.r.next(40) - 1
		wantMove(t, g.h, p, q, n, g.y.move(p, q, n))
	}
}

func (g *player) ask(t *testing.T) {
	t.Helper()
	p := g.somePlace()
	n := g.r.next(60) - 1
	wantExplain(t, g.h, p, n, g.y.explain(p, n))
	wantBlame(t, g.h, p, g.y.blame(p))
	q := somePointer(g.r, g.given)
	wantBlame(t, g.h, q, g.y.blame(q))
}

func playAlong(t *testing.T, c api.Conf, seed uint64) {
	t.Helper()
	g := &player{h: mustNew(t, c), y: &history{conf: c, bytes: map[int]byte{}}, r: &numbers{seed}}
	for step := 0; step < 300; step++ {
		g.block(t, step-7)
		g.touch(t)
		g.touch(t)
		g.ask(t)
		g.ask(t)
		for at, tag := range g.y.tags() {
			wantTag(t, g.h, 16*at, tag)
			wantTag(t, g.h, 16*at+15, tag)
		}
		for at, b := range g.h.bytes {
			if b != g.y.bytes[at] {
				t.Fatalf("the byte at %d is %d, want %d", at, b, g.y.bytes[at])
			}
		}
	}
}

func TestP4P6ToP12TheHeapAnswersAsItsHistorySays(t *testing.T) {
	for seed := uint64(1); seed <= 12; seed++ {
		for _, c := range []api.Conf{
			exampleConf(),
			{Classes: classes(1, 1)},
			{Rest: 2, Classes: classes(2, 5, 4, 3)},
			{Static: 2, Rest: 3, Classes: classes(1, 4, 2, 4, 3, 4, 8, 4)},
			{Rest: 16, Classes: classes(1, 16)},
			{Static: 16, Rest: 5, Classes: classes(3, 16)},
		} {
			playAlong(t, c, seed)
		}
	}
}
