package lockbox_test

import (
	"bytes"
	"math/rand/v2"
	"testing"

	"lockbox/api"
	"lockbox/lockbox"
)

// placesOf tells where a frame lies of which want holds, the last one first.
func placesOf(h *api.Hand, zones int, want func(f api.Frame) bool) (zone, slot int) {
	epoch, seq := -1, -1
	for z := range zones {
		for i, b := range h.Zone(z).Frames {
			f, e := lockbox.Open(testKey, b)
			later := f.Epoch > epoch || f.Epoch == epoch && f.Seq > seq
			if e == api.OK && want(f) && later {
				zone, slot, epoch, seq = z, i, f.Epoch, f.Seq
			}
		}
	}
	return zone, slot
}

// spoils: what others may do to a frame's zone.
func spoils(slot int, old []byte) map[string]func(x *api.Zone) {
	seal := func(f api.Frame) []byte {
		b, _ := lockbox.Seal(testKey+1, f)
		return b
	}
	return map[string]func(x *api.Zone){
		"a byte turned":     func(x *api.Zone) { x.Frames[slot][20] ^= 1 },
		"the tag turned":    func(x *api.Zone) { x.Frames[slot][57] ^= 128 },
		"cut off":           func(x *api.Zone) { x.Frames = x.Frames[:slot] },
		"nothing left":      func(x *api.Zone) { x.Frames = nil },
		"an empty frame":    func(x *api.Zone) { x.Frames[slot] = nil },
		"a shorter frame":   func(x *api.Zone) { x.Frames[slot] = x.Frames[slot][:57] },
		"a longer frame":    func(x *api.Zone) { x.Frames[slot] = append(x.Frames[slot], 0) },
		"an older frame":    func(x *api.Zone) { x.Frames[slot] = old },
		"another's frame":   func(x *api.Zone) { x.Frames[slot] = seal(api.Frame{Kind: api.Data, Body: forty('x')}) },
		"shifted by one":    func(x *api.Zone) { x.Frames = append([][]byte{old}, x.Frames...) },
		"one slot too many": func(x *api.Zone) { x.Frames[slot] = nil; x.Frames = append(x.Frames, old, old, old, old) },
	}
}

func TestReadOfWhatOthersSpoilt(t *testing.T) {
	for name := range spoils(0, nil) {
		for _, synced := range []bool{false, true} {
			s, h := newStore(t, 5, 4, 5)
			wantErrno(t, "P9: Write", s.Write(3, forty('o')), api.OK)
			z, i := placesOf(h, 5, func(f api.Frame) bool { return f.Kind == api.Data })
			old := h.Zone(z).Frames[i]
			wantErrno(t, "P9: Write", s.Write(2, forty('b')), api.OK)
			wantErrno(t, "P9: Write", s.Write(3, forty('a')), api.OK)
			if synced {
				wantErrno(t, "P12: Sync", s.Sync(), api.OK)
			}
			z, i = placesOf(h, 5, func(f api.Frame) bool { return f.Kind == api.Data })
			x := h.Zone(z)
			spoils(i, old)[name](&x)
			h.Lay(z, x)
			if b, e := s.Read(3); b != nil || e != api.ErrIntegrity {
				t.Fatalf("%s: Read = %q, %d, want ErrIntegrity", name, b, e)
			}
			wantDead(t, s, h, api.ErrIntegrity)
		}
	}
}

// Frames of the same block, of other blocks and of other kinds stand in for one another: each is sealed rightly, and yet none is the one that must be there.
func TestReadOfFramesThatChangedPlaces(t *testing.T) {
	const zones, slots, blocks = 5, 8, 5
	for at := range slots {
		for from := range slots {
			s, h := newStore(t, zones, slots, blocks)
			now := zeros(blocks)
			for i := range 5 {
				n := []int{0, 1, 0, 4, 1}[i]
				now[n] = blockOf(i)
				wantErrno(t, "P9: Write", s.Write(n, now[n]), api.OK)
			}
			wantErrno(t, "P12: Sync", s.Sync(), api.OK)
			x := h.Zone(0)
			if at >= len(x.Frames) || from >= len(x.Frames) {
				continue
			}
			x.Frames[at] = x.Frames[from]
			h.Lay(0, x)
			for n := range blocks {
				b, e := s.Read(n)
				if e == api.OK && !bytes.Equal(b, now[n]) || e != api.OK && e != api.ErrIntegrity {
					t.Fatalf("P14: Read(%d) = %q, %d, want %q", n, b, e, now[n])
				}
			}
		}
	}
}

// Whoever moves everything must not take up what others have spoilt.
func TestMovingOfWhatOthersSpoilt(t *testing.T) {
	const zones, slots, blocks = 7, 1, 1
	for name := range spoils(0, nil) {
		s, h := newStore(t, zones, slots, blocks)
		wantErrno(t, "P9: Write", s.Write(0, forty('o')), api.OK)
		z, i := placesOf(h, zones, func(f api.Frame) bool { return f.Kind == api.Data })
		old := h.Zone(z).Frames[i]
		wantErrno(t, "P12: Sync", s.Sync(), api.OK)
		wantErrno(t, "P9: Write", s.Write(0, forty('a')), api.OK)
		z, i = placesOf(h, zones, func(f api.Frame) bool { return f.Kind == api.Data })
		x := h.Zone(z)
		spoils(i, old)[name](&x)
		h.Lay(z, x)
		before := h.Anchor()
		if e := s.Sync(); e == api.ErrIntegrity {
			wantDead(t, s, h, api.ErrIntegrity)
			if h.Anchor().Count != before.Count {
				t.Errorf("%s: something was bound that is not the store", name)
			}
		}
	}
}

// addRubbish lays something behind the frames of some zone.
func addRubbish(h *api.Hand, zones, slots int, r *rand.Rand) {
	z := r.IntN(zones)
	x := h.Zone(z)
	for len(x.Frames) < slots && r.IntN(3) > 0 {
		x.Frames = append(x.Frames, forty('r'))
	}
	h.Lay(z, x)
}

// Others lay frames into empty zones, and behind those of the open one. All that the store needs is there still, so it goes on.
func TestRubbishOfOthers(t *testing.T) {
	for _, slots := range []int{1, 2, 4, 32} {
		const blocks = 5
		zones := least(slots, blocks)
		s, h := newStore(t, zones, slots, blocks)
		now := zeros(blocks)
		r := testRand(slots)
		for i := range 1000 {
			addRubbish(h, zones, slots, r)
			n := r.IntN(blocks)
			wantErrno(t, "P16: Write beside rubbish", s.Write(n, blockOf(i)), api.OK)
			now[n] = blockOf(i)
			addRubbish(h, zones, slots, r)
			if i%6 == 0 {
				wantErrno(t, "P16: Sync beside rubbish", s.Sync(), api.OK)
				if !sameBlocks(boundBlocks(t, h), now) {
					t.Fatalf("P12: beside rubbish not all lasts behind Sync")
				}
			}
			wantRead(t, s, i%blocks, now[i%blocks])
		}
	}
}

// fillUp lays something into all room that there is.
func fillUp(h *api.Hand, zones, slots int) {
	for z := range zones {
		x := h.Zone(z)
		for len(x.Frames) < slots {
			x.Frames = append(x.Frames, forty('r'))
		}
		h.Lay(z, x)
	}
}

// Others fill the disk up, and then the power goes, at whatever call: what was bound is there still.
func TestRubbishAndNoPower(t *testing.T) {
	for _, slots := range []int{1, 2, 3, 4, 32} {
		const blocks = 9
		zones := least(slots, blocks)
		for before := range 60 {
			for power := range 30 {
				s, h := newStore(t, zones, slots, blocks)
				y := &history{[][][]byte{zeros(blocks)}}
				for i := range before {
					wantErrno(t, "a call", act(t, s, i, blocks, y), api.OK)
				}
				fillUp(h, zones, slots)
				h.Power(power)
				if e := act(t, s, before, blocks, y); e != api.OK && e != api.ErrFailed {
					t.Fatalf("P16: a call beside rubbish = %d", e)
				}
				cut(h, zones, testRand(power))
				if now := boundBlocks(t, h); !y.has(now) {
					t.Fatalf("P13: slots %d, the power goes at call %d: the blocks are %q", slots, power, now)
				}
			}
		}
	}
}

// Whatever others do: what Read tells is right, or the store is dead; and no number is used twice.
func TestOthersDoAnything(t *testing.T) {
	for seed := range 3000 {
		r := testRand(seed)
		slots, blocks := 1+r.IntN(6), 1+r.IntN(16)
		zones := least(slots, blocks) + r.IntN(3)
		s, h := newStore(t, zones, slots, blocks)
		now := zeros(blocks)
		var earlier []disk
		dead := false
		for i := 0; i < 60 && !dead; i++ {
			n := r.IntN(blocks)
			e := api.OK
			switch r.IntN(4) {
			case 0:
				e = s.Sync()
			case 1:
				e = s.Trim(n)
				now[n] = forty(0)
			default:
				e = s.Write(n, blockOf(i))
				now[n] = blockOf(i)
			}
			earlier = append(earlier, take(h, zones))
			n = r.IntN(blocks)
			b, f := s.Read(n)
			if e == api.OK && f == api.OK && !bytes.Equal(b, now[n]) {
				t.Fatalf("P14: seed %d: Read(%d) = %q, want %q", seed, n, b, now[n])
			}
			dead = e != api.OK || f != api.OK
			if dead {
				wantDead(t, s, h, api.ErrIntegrity)
			}
			if r.IntN(8) == 0 {
				was := earlier[r.IntN(len(earlier))]
				h.Lay(r.IntN(zones), was.zones[r.IntN(zones)])
			}
		}
		numbersDiffer(t, h)
	}
}

func numbersDiffer(t *testing.T, h *api.Hand) {
	t.Helper()
	seen := map[[2]int]bool{}
	for i := range h.Logged() {
		f, e := lockbox.Open(testKey, h.Log(i))
		if e != api.OK || seen[[2]int{f.Epoch, f.Seq}] {
			t.Fatalf("P15: frame %d: %+v, %d", i, f, e)
		}
		seen[[2]int{f.Epoch, f.Seq}] = true
	}
}

// tamper does something to a disk with what lies on it, or lay there earlier.
func tamper(h *api.Hand, zones int, earlier []disk, r *rand.Rand) {
	z := r.IntN(zones)
	x := h.Zone(z)
	was := earlier[r.IntN(len(earlier))]
	i := 0
	if len(x.Frames) > 0 {
		i = r.IntN(len(x.Frames))
	}
	switch r.IntN(8) {
	case 0:
		was.lay(h)
		return
	case 1:
		x = was.zones[z]
	case 2:
		x = was.zones[r.IntN(zones)]
	case 3:
		x = api.Zone{}
	case 4:
		x.Frames = x.Frames[:i]
		x.Kept = min(x.Kept, i)
	case 5:
		x.Frames = append(x.Frames, h.Log(r.IntN(h.Logged())))
	case 6:
		if len(x.Frames) > 0 {
			x.Frames[i] = h.Log(r.IntN(h.Logged()))
		}
	case 7:
		if len(x.Frames) > 0 {
			x.Frames[i][r.IntN(len(x.Frames[i]))] ^= byte(1 << r.IntN(8))
		}
	}
	h.Lay(z, x)
}

// Others write on the disk ahead of Mount: it is OK and right, or ErrIntegrity; and when all is brought back, it is OK.
func TestOthersDoAnythingAheadOfMount(t *testing.T) {
	mounted, refused := 0, 0
	for seed := range 400 {
		r := testRand(seed)
		w := newWorld(t, 1+r.IntN(6), 1+r.IntN(16))
		w.others = true
		wantErrno(t, "P7: Format", w.format(), api.OK)
		var earlier []disk
		for i := range 60 {
			for range r.IntN(8) {
				wantErrno(t, "a call", w.chance(i, r, 2), api.OK)
				earlier = append(earlier, take(w.h, w.d.Zones()))
			}
			good := take(w.h, w.d.Zones())
			earlier = append(earlier, good)
			for range 1 + r.IntN(3) {
				tamper(w.h, w.d.Zones(), earlier, r)
			}
			e := w.mount()
			if e == api.OK {
				mounted++
				continue
			}
			refused++
			wantErrno(t, "P14: Mount of what others did", e, api.ErrIntegrity)
			good.lay(w.h)
			wantErrno(t, "P8: Mount of what was brought back", w.mount(), api.OK)
		}
	}
	if mounted < 1000 || refused < 1000 {
		t.Errorf("others do too little or too much: %d mounted, %d refused", mounted, refused)
	}
}

// Others write on the disk between any calls: what Read tells is right, what Mount takes up was there, no number is used twice.
func TestOthersDoAnythingBetweenCallsAndMounts(t *testing.T) {
	for seed := range 800 {
		r := testRand(seed)
		w := newWorld(t, 1+r.IntN(6), 1+r.IntN(16))
		w.others = true
		wantErrno(t, "P7: Format", w.format(), api.OK)
		var earlier []disk
		for i := range 150 {
			e := w.chance(i, r, 10)
			earlier = append(earlier, take(w.h, w.d.Zones()))
			if e != api.OK {
				wantErrno(t, "P14: a call beside others", e, api.ErrIntegrity)
				e = w.mount()
			}
			if e != api.OK {
				wantErrno(t, "P14: Mount beside others", e, api.ErrIntegrity)
				wantErrno(t, "P7: Format beside others", w.format(), api.OK)
			}
			if r.IntN(10) == 0 {
				tamper(w.h, w.d.Zones(), earlier, r)
			}
		}
	}
}

// Others write on the disk, and the power goes.
func TestOthersAndThePower(t *testing.T) {
	for seed := range 150 {
		r := testRand(seed)
		w := newWorld(t, 1+r.IntN(6), 1+r.IntN(16))
		w.others = true
		wantErrno(t, "P7: Format", w.format(), api.OK)
		earlier := []disk{take(w.h, w.d.Zones())}
		for i := range 100 {
			w.h.Power(r.IntN(60))
			e := api.OK
			for e == api.OK && w.h.Left() > 0 {
				e = w.chance(i, r, 10)
				if r.IntN(20) == 0 {
					tamper(w.h, w.d.Zones(), earlier, r)
				}
			}
			w.powerGoes(cuts[r.IntN(3)], r)
			earlier = append(earlier, take(w.h, w.d.Zones()))
			if e = w.mount(); e != api.OK {
				wantErrno(t, "P14: Mount beside others", e, api.ErrIntegrity)
				wantErrno(t, "P7: Format beside others", w.format(), api.OK)
			}
		}
	}
}
