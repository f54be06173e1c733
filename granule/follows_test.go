package granule

import (
	"testing"

	"granule/api"
)

func TestP17PickAnswersEveryCandidateEquallyOften(t *testing.T) {
	for last := 0; last <= 15; last++ {
		for left := last; left <= 15; left++ {
			for right := left; right <= 15; right++ {
				var often [16]int
				for draw := 0; draw < api.DrawRange; draw++ {
					often[Pick(last, left, right, draw)]++
				}
				candidates := 0
				for tag, n := range often {
					if tag >= 1 && tag <= 14 && tag != last && tag != left && tag != right {
						candidates++
					} else if n != 0 {
						t.Fatalf("Pick(%d, %d, %d) answers %d, which is no candidate", last, left, right, tag)
					}
				}
				for tag, n := range often {
					if n != 0 && n != api.DrawRange/candidates {
						t.Fatalf("Pick(%d, %d, %d) answers %d for %d draws, want %d", last, left, right, tag, n, api.DrawRange/candidates)
					}
				}
				if candidates < 11 || candidates > 14 || api.DrawRange%candidates != 0 {
					t.Fatalf("Pick(%d, %d, %d) has %d candidates", last, left, right, candidates)
				}
			}
		}
	}
}

// given is a block that was given out, with how many were given out of its slot since.
type given struct {
	p, n, i int
	live    bool
	since   int
}

// keeper plays calls that are right, and remembers every block there ever was.
type keeper struct {
	h    *Heap
	r    *numbers
	list []given
}

func (k *keeper) add(p int, err api.Errno) {
	if err != api.OK {
		return
	}
	n, i := k.h.slotAt(p % unit)
	for j := range k.list {
		if k.list[j].n == n && k.list[j].i == i {
			k.list[j].since++
		}
	}
	k.list = append(k.list, given{p: p, n: n, i: i, live: true})
}

// someLive is the place of a live block in the list, -1 if there is none.
func (k *keeper) someLive() int {
	for tries := 0; tries < 20 && len(k.list) > 0; tries++ {
		if at := k.r.next(len(k.list)); k.list[at].live {
			return at
		}
	}
	return -1
}

func (k *keeper) play(size int, draw int) {
	at := k.someLive()
	what := k.r.next(5)
	if at < 0 || what < 2 {
		k.add(k.h.Malloc(size, draw, 0))
	} else if what < 4 {
		k.h.Free(k.list[at].p, 0)
		k.list[at].live = false
	} else if p, err := k.h.Realloc(k.list[at].p, size, draw, 0); err == api.OK {
		k.list[at].live = false
		k.add(p, err)
	}
}

// wantNoTouch tries a pointer's tag on every granule of a slot.
func (k *keeper) wantNoTouch(t *testing.T, g given, i int) {
	t.Helper()
	c := &k.h.classes[g.n]
	if i < 0 || i >= len(c.slots) {
		return
	}
	for addr := c.slotBegin(i); addr < c.slotBegin(i+1); addr++ {
		if _, err := k.h.Load(g.p-g.p%unit+addr, 1); err != api.ErrTag {
			t.Fatalf("%+v may touch %d: %d", g, addr, err)
		}
	}
}

func TestP17WhatAPointerNeverTouches(t *testing.T) {
	for seed := uint64(1); seed <= 40; seed++ {
		for _, c := range []api.Conf{exampleConf(), {Classes: classes(1, 1)}, {Classes: classes(1, 3, 3, 3)}, {Rest: 3, Classes: classes(2, 8)}} {
			k := &keeper{h: mustNew(t, c), r: &numbers{seed}}
			longest := 16 * c.Classes[len(c.Classes)-1].Granules
			for step := 0; step < 80; step++ {
				// Few draws, so that tags come again soon.
				k.play(1+k.r.next(longest), k.r.next(3))
				for _, g := range k.list {
					if !g.live && g.since < 2 {
						k.wantNoTouch(t, g, g.i)
					}
					if g.since == 0 {
						k.wantNoTouch(t, g, g.i-1)
						k.wantNoTouch(t, g, g.i+1)
					}
				}
			}
		}
	}
}

// TestP17TwoBlocksLaterATagMayComeAgain shows that the promise above goes no further than it says.
func TestP17TwoBlocksLaterATagMayComeAgain(t *testing.T) {
	h := mustNew(t, api.Conf{Classes: classes(1, 1)})
	wantMalloc(t, h, 1, 0, 0, unit+32, api.OK)
	wantFree(t, h, unit+32, 0, api.OK)
	wantMalloc(t, h, 1, 0, 0, 2*unit+32, api.OK)
	wantLoad(t, h, unit+32, 1, 0, api.ErrTag)
	wantFree(t, h, 2*unit+32, 0, api.OK)
	wantLoad(t, h, unit+32, 1, 0, api.ErrTag)
	wantMalloc(t, h, 1, 0, 0, unit+32, api.OK)
	wantLoad(t, h, unit+32, 1, 0, api.OK)
}

func TestP17NeighboursHaveDifferentTagsAndNearIsShort(t *testing.T) {
	greatest := 0
	for seed := uint64(1); seed <= 20; seed++ {
		for _, c := range []api.Conf{{Classes: classes(1, 3)}, {Rest: 2, Classes: classes(1, 8, 3, 5)}} {
			k := &keeper{h: mustNew(t, c), r: &numbers{seed}}
			for step := 0; step < 150; step++ {
				k.play(1+k.r.next(40), k.r.next(4))
				for n := range k.h.classes {
					slots := k.h.classes[n].slots
					for i := 1; i < len(slots); i++ {
						if slots[i].state != api.Virgin && slots[i].tag == slots[i-1].tag {
							t.Fatalf("the slots %d and %d of class %d both have the tag %d", i-1, i, n, slots[i].tag)
						}
					}
				}
				for addr := 0; addr < len(k.h.bytes); addr += 16 {
					for tag := 0; tag <= 15; tag++ {
						near := max(len(k.h.Explain(tag*unit+addr, 1).Near), len(k.h.Blame(tag*unit+addr).Near))
						greatest = max(greatest, near)
					}
				}
			}
		}
	}
	if greatest != 2 {
		t.Errorf("the longest Near has %d entries, want 2", greatest)
	}
}

func TestP17TheDrawsDecideNeitherWhetherNorWhere(t *testing.T) {
	for seed := uint64(1); seed <= 30; seed++ {
		for _, c := range []api.Conf{exampleConf(), {Rest: 2, Classes: classes(1, 4, 2, 4, 5, 2)}} {
			var other [4]*keeper
			for n := range other {
				other[n] = &keeper{h: mustNew(t, c), r: &numbers{seed}}
			}
			draws := &numbers{seed + 99}
			for step := 0; step < 100; step++ {
				for n, k := range other {
					k.play(k.r.next(36), draws.next(12012)*n)
					if len(k.list) != len(other[0].list) {
						t.Fatalf("step %d: %d blocks were given out, and with other draws %d", step, len(k.list), len(other[0].list))
					}
					for i, g := range k.list {
						if g.p%unit != other[0].list[i].p%unit {
							t.Fatalf("step %d: block %d begins at %d, and with other draws at %d", step, i, g.p%unit, other[0].list[i].p%unit)
						}
					}
				}
			}
		}
	}
}
