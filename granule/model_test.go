package granule

import (
	"testing"

	"granule/api"
)

// event is a block given out of a slot, or freed.
type event struct {
	class, slot int
	freed       bool
	tag, bytes  int
}

// history is a second heap that keeps nothing but what happened, and works all else out from it.
type history struct {
	conf   api.Conf
	events []event
}

func (y *history) begin(class int, slot int) int {
	at := 16 * (y.conf.Static + 2)
	for n := 0; n < class; n++ {
		at += 16 * (y.conf.Classes[n].Granules*y.conf.Classes[n].Slots + 1)
	}
	return at + 16*y.conf.Classes[class].Granules*slot
}

// last is the last event of a slot, and how many frees its class had since.
func (y *history) last(class int, slot int) (event, bool, int) {
	frees := 0
	for i := len(y.events) - 1; i >= 0; i-- {
		e := y.events[i]
		if e.class == class && e.slot == slot {
			return e, true, frees
		}
		if e.class == class && e.freed {
			frees++
		}
	}
	return event{}, false, frees
}

func (y *history) lastTag(class int, slot int) int {
	e, _, _ := y.last(class, slot)
	return e.tag
}

func (y *history) malloc(size int, draw int) (int, api.Errno) {
	for n, k := range y.conf.Classes {
		if size < 1 || size > 16*k.Granules {
			continue
		}
		for i := 0; i < k.Slots; i++ {
			e, given, frees := y.last(n, i)
			if given && (!e.freed || frees < y.conf.Rest) {
				continue
			}
			tag := pickByWords(e.tag, y.lastTag(n, i-1), y.lastTag(n, i+1), draw)
			y.events = append(y.events, event{n, i, false, tag, (size + 15) / 16 * 16})
			return tag*unit + y.begin(n, i), api.OK
		}
		return 0, api.ErrFull
	}
	return 0, api.ErrSize
}

func (y *history) free(p int) api.Errno {
	if p == 0 {
		return api.OK
	}
	if p < 0 || p>>56 > 15 || p&(1<<56-1) > 65535 {
		return api.ErrWild
	}
	for n, k := range y.conf.Classes {
		for i := 0; i < k.Slots; i++ {
			e, given, _ := y.last(n, i)
			if y.begin(n, i) != p&65535 || !given || e.tag != p>>56 {
				continue
			}
			if e.freed {
				return api.ErrTwice
			}
			e.freed = true
			y.events = append(y.events, e)
			return api.OK
		}
	}
	return api.ErrFree
}

// tags lists the tag of every granule.
func (y *history) tags() []int {
	tags := freshTags(y.conf)
	for n, k := range y.conf.Classes {
		for i := 0; i < k.Slots; i++ {
			e, given, _ := y.last(n, i)
			for at := 0; given && !e.freed && at < e.bytes; at += 16 {
				tags[(y.begin(n, i)+at)/16] = e.tag
			}
		}
	}
	return tags
}

// numbers is a plain rule for numbers that look like none.
type numbers struct{ state uint64 }

func (r *numbers) next(n int) int {
	r.state = r.state*6364136223846793005 + 1442695040888963407
	return int(r.state>>33) % n
}

// somePointer is most often one that was given out, now and then bent a little.
func somePointer(r *numbers, given []int) int {
	p := 0
	if len(given) > 0 {
		p = given[r.next(len(given))]
	}
	switch r.next(12) {
	case 0:
		return p + unit*r.next(17)
	case 1:
		return p + r.next(33) - 16
	case 2:
		return extremes[r.next(len(extremes))]
	}
	return p
}

func playAlong(t *testing.T, c api.Conf, seed uint64) {
	t.Helper()
	h := mustNew(t, c)
	y := &history{conf: c}
	r := &numbers{seed}
	top := 16 * c.Classes[len(c.Classes)-1].Granules
	var given []int
	for step := 0; step < 400; step++ {
		if r.next(2) == 0 {
			size, draw := r.next(top+4)-1, r.next(40000)-20000
			want, wantErr := y.malloc(size, draw)
			wantMalloc(t, h, size, draw, step, want, wantErr)
			if wantErr == api.OK {
				given = append(given, want)
			}
		} else {
			p := somePointer(r, given)
			wantFree(t, h, p, step, y.free(p))
		}
		for g, tag := range y.tags() {
			wantTag(t, h, 16*g, tag)
			wantTag(t, h, 16*g+15, tag)
		}
	}
}

func TestP4P6P7TheHeapAnswersAsItsHistorySays(t *testing.T) {
	for seed := uint64(1); seed <= 12; seed++ {
		for _, c := range []api.Conf{
			exampleConf(),
			{Classes: classes(1, 1)},
			{Rest: 2, Classes: classes(2, 5, 4, 3)},
			{Static: 2, Rest: 3, Classes: classes(1, 4, 2, 4, 3, 4, 8, 4)},
			{Rest: 16, Classes: classes(1, 16)},
			{Static: 16, Rest: 5, Classes: classes(3, 16)},
		} {
			playAlong(t, c, seed)
		}
	}
}
