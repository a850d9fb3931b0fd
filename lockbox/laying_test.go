package lockbox_test

import (
	"bytes"
	"maps"
	"slices"
	"strconv"
	"sync/atomic"
	"testing"

	"lockbox/api"
	"lockbox/lockbox"
)

// laying: something that others do to a disk, once.
type laying struct {
	what string
	do   func(h *api.Hand)
}

// lives: the calls of a store on a disk that others see. F is Format, M Mount, w Write, t Trim, s Sync; what is behind the last of F, M and s does not last yet.
var lives = []string{
	"FwwwswwFwwwswtswwwwMwwsMwwtswwsMwwwsww",
	"FwwsFwwwwwsMwwwwtsMwwws",
	"FwwwwwwwwMwwwwwwswwwsMwwt",
	"FwwwwsFwwwwwwsMs",
}

// aheadOf: the calls behind the others' writing. r is Read of every block.
var aheadOf = []string{"rwsrMr", "wrsrMr", "srwrMr", "Mrwsrs", "twsrMr", "swwwsM"}

// kind: a disk and its store, how that lived, and the calls behind the others' writing.
type kind struct {
	slots, blocks int
	life, ahead   string
}

func (c kind) String() string {
	return strconv.Itoa(c.slots) + " slots, " + strconv.Itoa(c.blocks) + " blocks, " + c.life + ", then " + c.ahead
}

// seen: a world, how many calls were made in it, and how its disk was behind each.
type seen struct {
	*world
	made    int
	earlier []disk
}

// livedOn: a store that has lived. Whoever asks for it again gets the same, to the last byte.
func livedOn(t *testing.T, c kind) *seen {
	t.Helper()
	w := &seen{world: newWorld(t, c.slots, c.blocks)}
	for _, call := range c.life {
		wantErrno(t, "a call", w.does(call), api.OK)
	}
	w.others = true
	return w
}

// livedAndSeen: the same, and somebody has looked at the disk behind each call.
func livedAndSeen(t *testing.T, c kind) *seen {
	t.Helper()
	w := &seen{world: newWorld(t, c.slots, c.blocks)}
	for _, call := range c.life {
		wantErrno(t, "a call", w.does(call), api.OK)
		w.earlier = append(w.earlier, take(w.h, w.d.Zones()))
	}
	return w
}

// does makes a call. What it writes is like nothing that was written.
func (w *seen) does(c rune) api.Errno {
	w.t.Helper()
	w.made++
	n := w.made * 3 % w.blocks
	switch c {
	case 'F':
		return w.format()
	case 'M':
		return w.mount()
	case 's':
		return w.syncs()
	case 't':
		return w.trim(n)
	case 'r':
		return w.readAll()
	}
	return w.writes(n)
}

// writes: a block that was written just now is there, whatever others did ahead of that.
func (w *seen) writes(n int) api.Errno {
	w.t.Helper()
	e := w.write(n, blockOf(w.made))
	if e == api.OK {
		wantErrno(w.t, "P9: Read of what was written just now", w.read(n), api.OK)
	}
	return e
}

// syncs: a root that was bound just now is there, whatever others did ahead of that.
func (w *seen) syncs() api.Errno {
	w.t.Helper()
	e := w.sync()
	if e == api.OK {
		root := placesIn(w.h.Anchor().Bind[1:])[0]
		zonesByHand{w.h, map[int]api.Zone{}}.found(w.t, root, api.Root, w.blocks)
	}
	return e
}

func (w *seen) readAll() api.Errno {
	w.t.Helper()
	for n := range w.blocks {
		if e := w.read(n); e != api.OK {
			return e
		}
	}
	return api.OK
}

// goesOn makes calls until one is refused, which is ErrIntegrity; then the store is dead. Tells whether all were OK.
func (w *seen) goesOn(calls string) bool {
	w.t.Helper()
	for _, c := range calls {
		e := w.does(c)
		if e == api.OK {
			continue
		}
		wantErrno(w.t, "P14: a call behind others wrote", e, api.ErrIntegrity)
		if c != 'M' {
			wantDead(w.t, w.s, w.h, api.ErrIntegrity)
		}
		return false
	}
	return true
}

// holds tells whether the frames at these places are what they were.
func holds(h *api.Hand, was disk, at []spot) bool {
	return !slices.ContainsFunc(at, func(a spot) bool {
		now := h.Zone(a.zone).Frames
		return a.slot >= len(now) || !bytes.Equal(now[a.slot], was.zones[a.zone].Frames[a.slot])
	})
}

// laid: others write on the disk of a store that has lived, and the calls are made. Tells whether all were OK.
func laid(t *testing.T, c kind, l laying) bool {
	t.Helper()
	defer func() {
		if t.Failed() {
			t.Logf("others: %s", l.what)
		}
	}()
	w := livedOn(t, c)
	good := take(w.h, w.d.Zones())
	bound := boundSpots(t, w.h)
	l.do(w.h)
	held := holds(w.h, good, bound)
	first := w.goesOn(c.ahead[:1])
	if c.ahead[0] == 'M' && first != held {
		t.Fatalf("P8: the disk holds what is bound: %t, and Mount is OK: %t", held, first)
	}
	if first && w.goesOn(c.ahead[1:]) {
		return true
	}
	w.comesBack(good)
	return false
}

// comesBack: a call was ErrIntegrity. Mount is OK and right, or ErrIntegrity too; and it is OK when all is brought back, unless something else was bound meanwhile.
func (w *seen) comesBack(good disk) {
	w.t.Helper()
	if w.goesOn("Mr") {
		w.goesOn("wsr")
		return
	}
	if w.h.Anchor().Count == good.anchor.Count {
		good.lay(w.h)
		wantErrno(w.t, "P8: Mount of what was brought back", w.mount(), api.OK)
		wantErrno(w.t, "P10: Read of what was brought back", w.readAll(), api.OK)
		w.goesOn("wsr")
	}
}

// kinds tells disks on which a store needs many zones or few, each with every life and all that may come behind it.
func kinds() []kind {
	var out []kind
	for _, c := range [][2]int{{1, 1}, {1, 2}, {2, 1}, {3, 5}, {4, 5}, {8, 5}, {32, 16}} {
		for _, life := range lives {
			for _, calls := range aheadOf {
				out = append(out, kind{c[0], c[1], life, calls})
			}
		}
	}
	return out
}

// mostLayings: how many of the things that others may do are done to one kind of disk; of more, some are left out by chance.
const mostLayings = 150

// layAll lets others do what they may do to a disk, on each kind of disk. If it matters what they do and yet is not all that matters, some calls go well and some do not.
func layAll(t *testing.T, layings func(w *seen) []laying) {
	t.Helper()
	var well, ill atomic.Int64
	for i, c := range kinds() {
		t.Run(c.String(), func(t *testing.T) {
			t.Parallel()
			all := layings(livedAndSeen(t, c))
			testRand(i).Shuffle(len(all), func(i, j int) { all[i], all[j] = all[j], all[i] })
			for _, l := range all[:min(len(all), mostLayings)] {
				if laid(t, c, l) {
					well.Add(1)
				} else {
					ill.Add(1)
				}
			}
		})
	}
	t.Cleanup(func() {
		if !t.Failed() && (well.Load() < 1000 || ill.Load() < 1000) {
			t.Errorf("others do too little or too much: %d times all went well, %d times not", well.Load(), ill.Load())
		}
	})
}

// spots tells every place of a disk at which a frame may lie.
func (w *seen) spots() []spot {
	var out []spot
	for z := range w.d.Zones() {
		for i := range w.d.Slots() {
			out = append(out, spot{z, i})
		}
	}
	return out
}

// filled tells the places at which a frame lies.
func (w *seen) filled() []spot {
	var out []spot
	for _, at := range w.spots() {
		if at.slot < len(w.h.Zone(at.zone).Frames) {
			out = append(out, at)
		}
	}
	return out
}

func (at spot) String() string {
	return "zone " + strconv.Itoa(at.zone) + ", slot " + strconv.Itoa(at.slot)
}

// frameAt tells the frame that lies at a place.
func frameAt(h *api.Hand, at spot) []byte { return h.Zone(at.zone).Frames[at.slot] }

// put lays a frame at a place: instead of another, or behind those that are there; if they are too few, something lies between.
func put(h *api.Hand, at spot, b []byte) {
	x := h.Zone(at.zone)
	for len(x.Frames) <= at.slot {
		x.Frames = append(x.Frames, forty('r'))
	}
	x.Frames[at.slot] = b
	h.Lay(at.zone, x)
}

// P14: each frame that was ever appended lies at each place.
func TestOthersLayEachFrameAtEachPlace(t *testing.T) {
	layAll(t, func(w *seen) []laying {
		var out []laying
		for _, at := range w.spots() {
			for i := range w.h.Logged() {
				b := w.h.Log(i)
				out = append(out, laying{"frame " + strconv.Itoa(i) + " lies at " + at.String(), func(h *api.Hand) { put(h, at, b) }})
			}
		}
		return out
	})
}

// P14: two frames have changed places.
func TestOthersChangePlacesOfFrames(t *testing.T) {
	layAll(t, func(w *seen) []laying {
		var out []laying
		filled := w.filled()
		for i, a := range filled {
			for _, b := range filled[:i] {
				out = append(out, laying{a.String() + " for " + b.String(), func(h *api.Hand) {
					atA, atB := frameAt(h, a), frameAt(h, b)
					put(h, a, atB)
					put(h, b, atA)
				}})
			}
		}
		return out
	})
}

// P14: all frames of the disk, or those of one zone, lie so many places further on, or the other way round.
func TestOthersTurnFramesAround(t *testing.T) {
	layAll(t, func(w *seen) []laying {
		var out []laying
		turnOf := func(what string, at []spot) {
			for by := range at {
				for _, back := range []bool{false, true} {
					out = append(out, laying{what + " by " + strconv.Itoa(by), func(h *api.Hand) { turnAround(h, at, by, back) }})
				}
			}
		}
		turnOf("all", w.filled())
		for z := range w.d.Zones() {
			ofZone := slices.DeleteFunc(w.filled(), func(at spot) bool { return at.zone != z })
			turnOf("zone "+strconv.Itoa(z), ofZone)
		}
		return out
	})
}

// turnAround lets each frame lie where one lay that is so many places further on; back: counted from the other end.
func turnAround(h *api.Hand, at []spot, by int, back bool) {
	var all [][]byte
	for _, a := range at {
		all = append(all, frameAt(h, a))
	}
	if back {
		slices.Reverse(all)
	}
	for i, a := range at {
		put(h, a, all[(i+by)%len(all)])
	}
}

// P14: of some zones only the first frames are left, or only the last.
func TestOthersTakeFramesAway(t *testing.T) {
	layAll(t, func(w *seen) []laying {
		var out []laying
		for some := 1; some < 1<<min(w.d.Zones(), 8); some++ {
			for left := range w.d.Slots() {
				for _, last := range []bool{false, true} {
					what := strconv.Itoa(left) + " frames of the zones " + strconv.FormatInt(int64(some), 2)
					out = append(out, laying{what, func(h *api.Hand) {
						for z := range w.d.Zones() {
							if some>>(z%8)&1 == 1 {
								leaveFrames(h, z, left, last)
							}
						}
					}})
				}
			}
		}
		return out
	})
}

// leaveFrames leaves so many frames of a zone.
func leaveFrames(h *api.Hand, z, left int, last bool) {
	x := h.Zone(z)
	left = min(left, len(x.Frames))
	if last {
		x.Frames = x.Frames[len(x.Frames)-left:]
	} else {
		x.Frames = x.Frames[:left]
	}
	h.Lay(z, api.Zone{Frames: x.Frames, Kept: min(x.Kept, left)})
}

// P14: some zones are as they were behind an earlier call.
func TestOthersBringZonesBack(t *testing.T) {
	layAll(t, func(w *seen) []laying {
		var out []laying
		for i, was := range w.earlier {
			for some := 1; some < 1<<min(w.d.Zones(), 8); some++ {
				what := "behind call " + strconv.Itoa(i) + " the zones " + strconv.FormatInt(int64(some), 2)
				out = append(out, laying{what, func(h *api.Hand) {
					for z, x := range was.zones {
						if some>>(z%8)&1 == 1 {
							h.Lay(z, x)
						}
					}
				}})
			}
		}
		return out
	})
}

// P14: one zone is as another was, behind each of the calls.
func TestOthersLayZonesElsewhere(t *testing.T) {
	layAll(t, func(w *seen) []laying {
		var out []laying
		for i, was := range w.earlier {
			for from, x := range was.zones {
				for to := range was.zones {
					what := "behind call " + strconv.Itoa(i) + " zone " + strconv.Itoa(from) + " at " + strconv.Itoa(to)
					out = append(out, laying{what, func(h *api.Hand) { h.Lay(to, x) }})
				}
			}
		}
		return out
	})
}

// P14: a bit of a frame is another.
func TestOthersTurnBits(t *testing.T) {
	layAll(t, func(w *seen) []laying {
		var out []laying
		for _, at := range w.filled() {
			for bit := range 8 * api.FrameSize {
				out = append(out, laying{"bit " + strconv.Itoa(bit) + " of " + at.String(), func(h *api.Hand) {
					b := frameAt(h, at)
					b[bit/8] ^= 1 << (bit % 8)
					put(h, at, b)
				}})
			}
		}
		return out
	})
}

// falsified tells frames that look like one, and that none can open who has the key.
func falsified(t *testing.T, b []byte) map[string][]byte {
	t.Helper()
	f, e := lockbox.Open(testKey, b)
	wantErrno(t, "P5: Open", e, api.OK)
	byOther, _ := lockbox.Seal(testKey+1, f)
	f.Body = forty('x')
	other, _ := lockbox.Seal(testKey+1, f)
	return map[string][]byte{
		"nothing":               nil,
		"a byte":                b[:1],
		"too short":             b[:api.FrameSize-1],
		"too long":              append(bytes.Clone(b), 0),
		"twice":                 append(bytes.Clone(b), b...),
		"all 0":                 make([]byte, api.FrameSize),
		"all 255":               bytes.Repeat([]byte{255}, api.FrameSize),
		"by another key":        byOther,
		"another, another key":  other,
		"the tag of another":    append(bytes.Clone(b[:50]), other[50:]...),
		"the numbers of others": append(bytes.Clone(other[:10]), b[10:]...),
		"the halves changed":    append(bytes.Clone(b[29:]), b[:29]...),
	}
}

// P14: instead of a frame lies something that looks like it.
func TestOthersLayWhatLooksLikeAFrame(t *testing.T) {
	layAll(t, func(w *seen) []laying {
		var out []laying
		for _, at := range w.filled() {
			all := falsified(w.t, frameAt(w.h, at))
			for _, name := range slices.Sorted(maps.Keys(all)) {
				out = append(out, laying{name + " at " + at.String(), func(h *api.Hand) { put(h, at, all[name]) }})
			}
		}
		return out
	})
}
