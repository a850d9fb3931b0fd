package lockbox_test

import (
	"bytes"
	"math/rand/v2"
	"slices"
	"testing"

	"lockbox/api"
	"lockbox/lockbox"
)

// world: a disk, the store on it, and all that the document says of both.
type world struct {
	t      *testing.T
	d      *api.Disk
	h      *api.Hand
	s      *lockbox.Store
	blocks int
	y      history         // the blocks as they may be behind Mount
	none   bool            // whether nothing may be bound
	others bool            // whether others write on the disk
	seen   map[[2]int]bool // the numbers of all frames
	logged int             // how many frames were looked at
}

func newWorld(t *testing.T, slots, blocks int) *world {
	t.Helper()
	w := &world{t: t, blocks: blocks, none: true, seen: map[[2]int]bool{}}
	w.d, w.h = api.NewDisk(least(slots, blocks), slots)
	return w
}

// call makes a call, and holds what it did to the disk against P13, P15 and P17. Of the blocks that it lays down, block n may be b too.
func (w *world) call(what string, n int, b []byte, do func() api.Errno) api.Errno {
	w.t.Helper()
	off, calls, logged := w.d.Off(), w.h.Calls(), w.h.Logged()
	e := do()
	made := w.h.Calls() - calls
	if made > mostCalls(w.d.Zones(), w.d.Slots()) {
		w.t.Fatalf("P17: %s made %d calls", what, made)
	}
	if off && made != 0 || e == api.ErrFailed && !w.d.Off() {
		w.t.Fatalf("%s = %d, with power for %d calls", what, e, w.h.Left())
	}
	if !w.others && (w.h.Wrong() != 0 || e == api.ErrIntegrity) {
		w.t.Fatalf("P13: %s = %d, forbidden calls %d", what, e, w.h.Wrong())
	}
	for i := logged; i < w.h.Logged(); i++ {
		w.frame(what, w.h.Log(i), n, b)
	}
	return e
}

// frame holds a frame that was appended against P15.
func (w *world) frame(what string, sealed []byte, n int, b []byte) {
	w.t.Helper()
	f, e := lockbox.Open(testKey, sealed)
	number := [2]int{f.Epoch, f.Seq}
	if e != api.OK || w.seen[number] {
		w.t.Fatalf("P15: %s lays down %+v, %d; its number was used: %t", what, f, e, w.seen[number])
	}
	w.seen[number] = true
	if f.Kind != api.Data {
		return
	}
	if f.Index >= w.blocks || !bytes.Equal(f.Body, w.y.last()[f.Index]) && !(f.Index == n && bytes.Equal(f.Body, b)) {
		w.t.Fatalf("P15: %s lays down %+v, and the block is another", what, f)
	}
}

func (w *world) write(n int, b []byte) api.Errno {
	w.t.Helper()
	e := w.call("Write", n, b, func() api.Errno { return w.s.Write(n, b) })
	w.y.becomes(n, b)
	return e
}

func (w *world) trim(n int) api.Errno {
	w.t.Helper()
	e := w.call("Trim", n, forty(0), func() api.Errno { return w.s.Trim(n) })
	w.y.becomes(n, forty(0))
	return e
}

func (w *world) sync() api.Errno {
	w.t.Helper()
	e := w.call("Sync", -1, nil, w.s.Sync)
	if e == api.OK {
		w.y.lasts()
	}
	return e
}

func (w *world) read(n int) api.Errno {
	w.t.Helper()
	return w.call("Read", -1, nil, func() api.Errno {
		b, e := w.s.Read(n)
		if e == api.OK && !bytes.Equal(b, w.y.last()[n]) {
			w.t.Fatalf("P10: Read(%d) = %q, want %q", n, b, w.y.last()[n])
		}
		return e
	})
}

// format: if it is broken off, the blocks may be as they were, or all 0, or nothing is there.
func (w *world) format() api.Errno {
	w.t.Helper()
	e := w.call("Format", -1, nil, func() (e api.Errno) {
		w.s, e = lockbox.Format(w.d, testKey, w.blocks)
		return e
	})
	w.y.moments = append(w.y.moments, zeros(w.blocks))
	w.none = e != api.OK
	if e == api.OK {
		w.y.lasts()
	}
	return e
}

// mount takes the store up; its blocks are as they were at one of the moments.
func (w *world) mount() api.Errno {
	w.t.Helper()
	e := w.call("Mount", -1, nil, func() (e api.Errno) {
		w.s, e = lockbox.Mount(w.d, testKey)
		return e
	})
	if e == api.ErrNone && !w.none {
		w.t.Fatalf("P8: Mount = ErrNone")
	}
	if e == api.OK {
		w.none = false
		w.takeUp()
	}
	return e
}

// takeUp holds the blocks behind a Mount against P13.
func (w *world) takeUp() {
	w.t.Helper()
	left := w.h.Left()
	w.h.Power(-1)
	now := allOf(w.t, w.s, w.blocks)
	w.h.Power(left)
	if !w.y.has(now) {
		w.t.Fatalf("P13: behind Mount the blocks are %q", now)
	}
	w.y = history{[][][]byte{now}}
}

// cuts: what may be left of the zones when the power has gone: what was kept, all, or anything between.
var cuts = []string{"what was kept", "all", "anything"}

func (w *world) powerGoes(how string, r *rand.Rand) {
	switch how {
	case "what was kept":
		for z := range w.d.Zones() {
			x := w.h.Zone(z)
			x.Frames = x.Frames[:x.Kept]
			w.h.Lay(z, x)
		}
	case "anything":
		cut(w.h, w.d.Zones(), r)
	}
	w.h.Power(-1)
}

// step makes the i-th call of a life in which everything is called; tells its answer.
func (w *world) step(i int) api.Errno {
	w.t.Helper()
	n := i * 7 % w.blocks
	switch {
	case i%47 == 46:
		return w.format()
	case i%17 == 16:
		return w.mount()
	case i%11 == 10:
		return w.trim(n)
	case i%5 == 4:
		return w.sync()
	case i%6 == 5:
		return w.read(n)
	}
	return w.write(n, blockOf(i))
}

// live makes calls until one fails; tells whether one did.
func (w *world) live(from, calls int) bool {
	w.t.Helper()
	for i := from; i < from+calls; i++ {
		if e := w.step(i); e != api.OK {
			wantErrno(w.t, "P13: a call when the power goes", e, api.ErrFailed)
			return true
		}
	}
	return false
}

// chance makes some call; tells its answer.
func (w *world) chance(i int, r *rand.Rand, mounts int) api.Errno {
	w.t.Helper()
	n := r.IntN(w.blocks)
	switch c := r.IntN(100); {
	case c < mounts:
		return w.mount()
	case c < mounts+10:
		return w.trim(n)
	case c < mounts+20:
		return w.sync()
	case c < mounts+30:
		return w.read(n)
	}
	return w.write(n, blockOf(i))
}

// mountOrFormat takes the store up again; if nothing is there, it makes a new one.
func (w *world) mountOrFormat() {
	w.t.Helper()
	e := w.mount()
	if e == api.ErrNone {
		e = w.format()
	}
	wantErrno(w.t, "P13: Mount when the power has come again", e, api.OK)
}

// P13, P15: the power goes ahead of each call of the disk in turn, for each number of blocks.
func TestThePowerGoesAndMount(t *testing.T) {
	for blocks := 1; blocks <= api.MaxBlocks; blocks++ {
		for _, slots := range []int{1, 2, 3, 6, 32} {
			t.Run("", func(t *testing.T) {
				t.Parallel()
				failed := true
				for power := 0; failed; power++ {
					w := newWorld(t, slots, blocks)
					w.h.Power(power)
					w.y = history{[][][]byte{zeros(blocks)}}
					failed = w.format() != api.OK || w.live(0, 70)
					w.powerGoes(cuts[power%3], testRand(power))
					if w.mount() == api.ErrNone {
						continue
					}
					w.live(power, 20)
				}
			})
		}
	}
}

// Of each zone any number of frames is left, each time another; and the power goes again and again, in Mount too.
func TestThePowerGoesManyTimes(t *testing.T) {
	for _, slots := range []int{1, 2, 4, 9, 32} {
		for _, blocks := range []int{1, 4, 5, 12, 16} {
			t.Run("", func(t *testing.T) {
				t.Parallel()
				w := newWorld(t, slots, blocks)
				wantErrno(t, "P7: Format", w.format(), api.OK)
				r := testRand(slots*100 + blocks)
				for round := range 300 {
					w.h.Power(r.IntN(80))
					w.live(r.IntN(47), 47)
					w.powerGoes(cuts[r.IntN(3)], r)
					for power := 0; round%10 == 0; power++ {
						w.h.Power(power)
						if e := w.mount(); e != api.ErrFailed {
							break
						}
						w.powerGoes("anything", r)
					}
					w.h.Power(-1)
					w.mountOrFormat()
				}
			})
		}
	}
}

// Mount of what was mounted, many times over, with nothing or little between.
func TestMountManyTimesOver(t *testing.T) {
	for _, slots := range []int{1, 3, 32} {
		const blocks = 6
		w := newWorld(t, slots, blocks)
		wantErrno(t, "P7: Format", w.format(), api.OK)
		for i := range 600 {
			if i%7 == 3 {
				wantErrno(t, "P9: Write", w.write(i%blocks, blockOf(i)), api.OK)
			}
			if i%21 == 3 {
				wantErrno(t, "P12: Sync", w.sync(), api.OK)
			}
			before := slices.Clone(w.y.moments)
			wantErrno(t, "P8: Mount", w.mount(), api.OK)
			if i%21 == 3 && !sameBlocks(w.y.last(), before[len(before)-1]) {
				t.Fatalf("P12: behind Sync and Mount the blocks are others")
			}
		}
	}
}

// P16, P17 of mounted stores.
func TestThereIsAlwaysRoomBehindMount(t *testing.T) {
	for slots := 1; slots <= api.MaxSlots; slots++ {
		t.Run("", func(t *testing.T) {
			t.Parallel()
			for _, blocks := range []int{1, 4, 5, 9, 16} {
				w := newWorld(t, slots, blocks)
				wantErrno(t, "P7: Format", w.format(), api.OK)
				r := testRand(slots)
				for _, mounts := range []int{1, 5, 50} {
					for i := range 1000 {
						wantErrno(t, "P16: a call", w.chance(i, r, mounts), api.OK)
					}
				}
			}
		})
	}
}

// The anchor's count comes to its end while stores are mounted: then they can be read.
func TestCountComesToItsEndWithMounts(t *testing.T) {
	for _, slots := range []int{1, 3, 32} {
		for blocks := 1; blocks <= api.MaxBlocks; blocks++ {
			w := newWorld(t, slots, blocks)
			w.h.Bind(api.Anchor{Count: api.MaxNumber - 60})
			wantErrno(t, "P7: Format", w.format(), api.OK)
			r := testRand(blocks)
			for i := 0; w.h.Anchor().Count < api.MaxNumber; i++ {
				wantErrno(t, "P16: a call", w.chance(i, r, 10), api.OK)
			}
			logged := w.h.Logged()
			for range 3 {
				wantErrno(t, "P8: Mount at the end of the count", w.mount(), api.OK)
				wantErrno(t, "P9: Write", w.s.Write(0, forty('x')), api.ErrSpent)
				wantErrno(t, "P11: Trim", w.s.Trim(0), api.ErrSpent)
				wantErrno(t, "P12: Sync", w.s.Sync(), api.ErrSpent)
				wantErrno(t, "P10: Read", w.read(blocks-1), api.OK)
			}
			if w.h.Logged() != logged {
				t.Fatalf("P15: frames are laid down though the count is at its end")
			}
		}
	}
}

// The document's example: behind Mount the first two blocks are never (a, c).
func TestExampleOfThePowerAndMount(t *testing.T) {
	for _, slots := range []int{1, 2, 8} {
		for power := range 60 {
			w := newWorld(t, slots, 5)
			wantErrno(t, "P7: Format", w.format(), api.OK)
			wantErrno(t, "P9: Write", w.write(0, forty('a')), api.OK)
			wantErrno(t, "P12: Sync", w.sync(), api.OK)
			w.h.Power(power)
			if w.write(0, forty('b')) == api.OK {
				w.write(1, forty('c'))
			}
			w.powerGoes(cuts[power%3], testRand(power))
			wantErrno(t, "P13: Mount", w.mount(), api.OK)
			if now := w.y.last(); bytes.Equal(now[0], forty('a')) && bytes.Equal(now[1], forty('c')) {
				t.Fatalf("P13: the blocks are (a, c)")
			}
		}
	}
}
