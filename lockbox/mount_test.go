package lockbox_test

import (
	"bytes"
	"math"
	"slices"
	"sync"
	"testing"

	"lockbox/api"
	"lockbox/lockbox"
)

func mustMount(t *testing.T, d *api.Disk) *lockbox.Store {
	t.Helper()
	s, e := lockbox.Mount(d, testKey)
	if s == nil || e != api.OK {
		t.Fatalf("P8: Mount of %d zones of %d slots: %d", d.Zones(), d.Slots(), e)
	}
	return s
}

// wantNoMount: Mount is that error, and nothing on the disk is another than it was (but that more frames may be kept).
func wantNoMount(t *testing.T, what string, d *api.Disk, h *api.Hand, key int, want api.Errno) {
	t.Helper()
	before := take(h, d.Zones())
	s, e := lockbox.Mount(d, key)
	if s != nil || e != want {
		t.Fatalf("P8: %s: Mount = %d (store: %t), want %d", what, e, s != nil, want)
	}
	now := take(h, d.Zones())
	for z := range now.zones {
		if now.zones[z].Kept < before.zones[z].Kept {
			t.Fatalf("P8: %s: Mount took away of what was kept", what)
		}
		now.zones[z].Kept = before.zones[z].Kept
	}
	if !now.is(before) {
		t.Fatalf("P8: %s: Mount is %d, and the disk is another", what, e)
	}
}

// allOf reads all blocks of a store, which has so many.
func allOf(t *testing.T, s *lockbox.Store, blocks int) [][]byte {
	t.Helper()
	out := make([][]byte, blocks)
	for n := range out {
		b, e := s.Read(n)
		if e != api.OK || len(b) != api.BlockSize {
			t.Fatalf("P10: Read(%d) = %q, %d", n, b, e)
		}
		out[n] = b
	}
	for _, n := range []int{-1, blocks} {
		if b, e := s.Read(n); b != nil || e != api.ErrArg {
			t.Fatalf("P8: the store has more or fewer than %d blocks: Read(%d) = %q, %d", blocks, n, b, e)
		}
	}
	return out
}

// elsewhere: another disk, on which the same lies.
func elsewhere(h *api.Hand, zones, slots int) (*api.Disk, *api.Hand) {
	d, other := api.NewDisk(zones, slots)
	take(h, zones).lay(other)
	other.Bind(h.Anchor())
	return d, other
}

// lived: a disk with a store that has been written, trimmed and synced for a while, and its blocks.
func lived(t *testing.T, slots, blocks, calls int) (*api.Disk, *api.Hand, [][]byte) {
	t.Helper()
	d, h := api.NewDisk(least(slots, blocks), slots)
	s := mustFormat(t, d, blocks)
	y := &history{[][][]byte{zeros(blocks)}}
	for i := range calls {
		wantErrno(t, "a call", act(t, s, i, blocks, y), api.OK)
	}
	wantErrno(t, "P12: Sync", s.Sync(), api.OK)
	return d, h, y.last()
}

func TestMountArguments(t *testing.T) {
	for _, key := range slices.Concat(inside, outside, []int{testKey}) {
		if s, e := lockbox.Mount(nil, key); s != nil || e != api.ErrArg {
			t.Errorf("P8: Mount of no disk: %d", e)
		}
	}
	for _, key := range inside {
		d, h := api.NewDisk(7, 1)
		if _, e := lockbox.Format(d, key, 1); e != api.OK {
			t.Fatalf("P7: Format = %d", e)
		}
		if s, e := lockbox.Mount(d, key); s == nil || e != api.OK || h.Wrong() != 0 {
			t.Errorf("P8: Mount by the key %d: %d", key, e)
		}
	}
	for _, key := range outside {
		d, h := api.NewDisk(7, 1)
		wantNoMount(t, "no such key, nothing bound", d, h, key, api.ErrArg)
		mustFormat(t, d, 1)
		wantNoMount(t, "no such key", d, h, key, api.ErrArg)
		h.Bind(api.Anchor{Count: 5, Bind: []byte("no store")})
		wantNoMount(t, "no such key, no store", d, h, key, api.ErrArg)
		h.Power(0)
		wantNoMount(t, "no such key, no power", d, h, key, api.ErrArg)
	}
}

// shapes: disks of all kinds, with room for a store or not.
func shapes() [][2]int {
	var out [][2]int
	for _, zones := range []int{0, 1, 3, 7, 43, 64, 65, 1000} {
		for _, slots := range []int{math.MinInt, -1, 0, 1, 2, 32, 33, math.MaxInt} {
			out = append(out, [2]int{zones, slots})
		}
	}
	return out
}

func TestMountOfNothing(t *testing.T) {
	for _, c := range shapes() {
		for _, count := range []int{0, 1, api.MaxNumber - 1, api.MaxNumber} {
			d, h := api.NewDisk(c[0], c[1])
			for _, bind := range [][]byte{nil, {}} {
				h.Bind(api.Anchor{Count: count, Bind: bind})
				h.Power(1)
				wantNoMount(t, "nothing bound", d, h, testKey, api.ErrNone)
				wantNoMount(t, "nothing bound, no power", d, h, testKey, api.ErrFailed)
			}
			if h.Wrong() != 0 {
				t.Errorf("P8: the disk forbade %d calls", h.Wrong())
			}
		}
	}
}

// What is bound is no store's, or that of a store which cannot be on such a disk.
func TestMountOfBytesThatAreNoStores(t *testing.T) {
	r := testRand(1)
	for _, c := range shapes() {
		d, h := api.NewDisk(c[0], c[1])
		full(h, c[0], min(max(0, c[1]), 4))
		for _, size := range []int{1, 2, 9, 10, 11, 12, 31, 32, 33, 1000} {
			for _, fill := range []int{0, 1, 16, 255, -1} {
				bind := make([]byte, size)
				for i := range bind {
					bind[i] = byte(fill)
					if fill < 0 {
						bind[i] = byte(r.IntN(256) >> r.IntN(8))
					}
				}
				h.Bind(api.Anchor{Count: 5, Bind: bind})
				wantNoMount(t, "no store's bytes", d, h, testKey, api.ErrIntegrity)
				h.Power(0)
				wantNoMount(t, "no store's bytes, no power", d, h, testKey, api.ErrFailed)
				h.Power(-1)
			}
		}
	}
}

// What is bound was a store's, and a byte of it is another, or one is missing, or one too many.
func TestMountOfBytesThatWereAStores(t *testing.T) {
	for _, blocks := range []int{1, 5, 13, 16} {
		d, h, now := lived(t, 32, blocks, 40)
		was := h.Anchor()
		wrong := func(what string, bind []byte) {
			t.Helper()
			h.Bind(api.Anchor{Count: was.Count, Bind: bind})
			wantNoMount(t, what, d, h, testKey, api.ErrIntegrity)
		}
		for i := range was.Bind {
			for turn := 1; turn < 256; turn++ {
				bind := bytes.Clone(was.Bind)
				bind[i] ^= byte(turn)
				wrong("a byte turned", bind)
			}
			if i > 0 {
				wrong("bytes missing", was.Bind[:i])
			}
			wrong("bytes missing at the front", was.Bind[i:][:len(was.Bind)-i-1+min(i, 1)])
		}
		wrong("a byte too many", append(bytes.Clone(was.Bind), 0))
		wrong("a byte too many in front", append([]byte{0}, was.Bind...))
		h.Bind(was)
		if !sameBlocks(allOf(t, mustMount(t, d), blocks), now) {
			t.Errorf("P8: with the right bytes the blocks are others")
		}
	}
}

func TestMountOfEverySize(t *testing.T) {
	for slots := 1; slots <= api.MaxSlots; slots++ {
		for blocks := 1; blocks <= api.MaxBlocks; blocks++ {
			for _, calls := range []int{0, 9, 30 + blocks} {
				d, h, now := lived(t, slots, blocks, calls)
				made := h.Calls()
				s := mustMount(t, d)
				if made = h.Calls() - made; made > mostCalls(d.Zones(), slots) {
					t.Fatalf("P17: Mount made %d calls", made)
				}
				if !sameBlocks(allOf(t, s, blocks), now) || h.Wrong() != 0 {
					t.Fatalf("P8: slots %d, blocks %d: the blocks are others (forbidden calls: %d)", slots, blocks, h.Wrong())
				}
			}
		}
	}
}

// A store is found on a disk on which none can be that has so many blocks.
func TestMountOnAnotherKindOfDisk(t *testing.T) {
	_, h, _ := lived(t, 32, 16, 40)
	for _, c := range [][2]int{{3, 0}, {3, -1}, {3, math.MinInt}, {3, 33}, {3, math.MaxInt}, {3, 1}, {3, 20}, {65, 32}, {2, 32}, {1, 32}, {0, 32}} {
		d, other := api.NewDisk(c[0], c[1])
		take(h, 3).lay(other)
		other.Bind(h.Anchor())
		wantNoMount(t, "a disk of another kind", d, other, testKey, api.ErrIntegrity)
	}
	d, _ := elsewhere(h, 3, 32)
	mustMount(t, d)
}

// What others brought back may not be kept: behind a Mount that is OK it is.
func TestMountKeepsWhatItFound(t *testing.T) {
	d, h, now := lived(t, 4, 9, 60)
	for z := range d.Zones() {
		h.Lay(z, api.Zone{Frames: h.Zone(z).Frames})
	}
	mustMount(t, d)
	for z := range d.Zones() {
		x := h.Zone(z)
		h.Lay(z, api.Zone{Frames: x.Frames[:x.Kept], Kept: x.Kept})
	}
	if !sameBlocks(allOf(t, mustMount(t, d), 9), now) {
		t.Errorf("P13: the blocks are others")
	}
}

// A store can be taken up from another disk on which the same lies: nothing is kept anywhere else.
func TestMountElsewhere(t *testing.T) {
	for _, slots := range []int{1, 3, 32} {
		_, h, now := lived(t, slots, 7, 50)
		d, other := elsewhere(h, least(slots, 7), slots)
		before := take(h, least(slots, 7))
		s := mustMount(t, d)
		for n := range 7 {
			wantRead(t, s, n, now[n])
			wantErrno(t, "P9: Write", s.Write(n, blockOf(n)), api.OK)
		}
		wantErrno(t, "P12: Sync", s.Sync(), api.OK)
		if !take(h, least(slots, 7)).is(before) || other.Wrong() != 0 {
			t.Errorf("P2: a store on one disk does something to another")
		}
	}
}

func TestMountByAnotherKey(t *testing.T) {
	for _, count := range []int{0, api.MaxNumber - 3, api.MaxNumber - 2} {
		d, h := api.NewDisk(7, 1)
		h.Bind(api.Anchor{Count: count})
		s := mustFormat(t, d, 1)
		s.Write(0, forty('a'))
		s.Sync()
		now := boundBlocks(t, h)
		for _, key := range slices.Concat(inside, []int{testKey - 1, testKey + 1, testKey + 1<<31, testKey ^ 255}) {
			if key != testKey {
				wantNoMount(t, "another key", d, h, key, api.ErrIntegrity)
			}
		}
		if !sameBlocks(allOf(t, mustMount(t, d), 1), now) {
			t.Errorf("P8: Mount by another key took something away")
		}
	}
}

// Behind a second Format by another key the first key is another's.
func TestMountByTheKeyOfAnEarlierFormat(t *testing.T) {
	d, h, _ := lived(t, 4, 5, 30)
	before := take(h, d.Zones())
	if _, e := lockbox.Format(d, testKey+1, 5); e != api.OK {
		t.Fatalf("P7: Format = %d", e)
	}
	wantNoMount(t, "an earlier key", d, h, testKey, api.ErrIntegrity)
	before.lay(h)
	wantNoMount(t, "an earlier key, what lay there earlier", d, h, testKey, api.ErrIntegrity)
	wantNoMount(t, "what lay there earlier", d, h, testKey+1, api.ErrIntegrity)
}

func TestMountWhenThePowerGoes(t *testing.T) {
	for _, c := range []struct{ slots, blocks int }{{1, 1}, {1, 16}, {2, 5}, {3, 9}, {32, 16}} {
		for _, calls := range []int{0, 3, 80} {
			d, h, now := lived(t, c.slots, c.blocks, calls)
			calls := h.Calls()
			mustMount(t, d)
			calls = h.Calls() - calls
			for power := range calls {
				h.Power(power)
				wantNoMount(t, "the power goes", d, h, testKey, api.ErrFailed)
				cut(h, d.Zones(), testRand(power))
				if !sameBlocks(allOf(t, mustMount(t, d), c.blocks), now) {
					t.Fatalf("P13: the power goes at call %d of Mount, and the blocks are others", power)
				}
			}
			h.Power(calls)
			mustMount(t, d)
			if h.Wrong() != 0 {
				t.Errorf("P13: the disk forbade %d calls", h.Wrong())
			}
		}
	}
}

// spot: where a frame lies.
type spot struct{ zone, slot int }

// boundSpots tells where all frames lie that are bound.
func boundSpots(t *testing.T, h *api.Hand) []spot {
	t.Helper()
	bind := h.Anchor().Bind
	w := zonesByHand{h, map[int]api.Zone{}}
	at := placesIn(bind[1:])
	for i, leafAt := range placesIn(w.found(t, at[0], api.Root, int(bind[0])).Body) {
		if leafAt != (place{}) {
			at = append(at, leafAt)
			at = append(at, placesIn(w.found(t, leafAt, api.Leaf, i).Body)...)
		}
	}
	var out []spot
	for _, p := range at {
		if p != (place{}) {
			out = append(out, spot{p.zone, p.slot})
		}
	}
	return out
}

// olderThan tells a frame that was laid down earlier and is of the same kind, if there is one.
func olderThan(h *api.Hand, b []byte) []byte {
	for i := range h.Logged() {
		if f := h.Log(i); bytes.Equal(f[:2], b[:2]) && !bytes.Equal(f, b) {
			return f
		}
	}
	return h.Log(0)
}

// Each frame that is bound is spoilt in turn, in each way; then it is brought back.
func TestMountOfWhatOthersSpoilt(t *testing.T) {
	for _, c := range []struct{ slots, blocks int }{{1, 2}, {4, 5}, {32, 16}} {
		d, h, now := lived(t, c.slots, c.blocks, 80)
		for _, at := range boundSpots(t, h) {
			good := h.Zone(at.zone)
			old := olderThan(h, good.Frames[at.slot])
			for name, spoil := range spoils(at.slot, old) {
				x := h.Zone(at.zone)
				spoil(&x)
				h.Lay(at.zone, x)
				calls := h.Calls()
				wantNoMount(t, name, d, h, testKey, api.ErrIntegrity)
				calls = h.Calls() - calls
				for power := range calls {
					h.Power(power)
					wantNoMount(t, name+", and the power goes", d, h, testKey, api.ErrFailed)
				}
				h.Power(calls)
				wantNoMount(t, name+", and the power goes behind that", d, h, testKey, api.ErrIntegrity)
				h.Power(-1)
				h.Lay(at.zone, good)
			}
			if !sameBlocks(allOf(t, mustMount(t, d), c.blocks), now) {
				t.Fatalf("P8: what was brought back is another")
			}
		}
	}
}

// Whatever lies beside what is bound: Mount does not mind.
func TestMountBesideRubbish(t *testing.T) {
	for _, slots := range []int{1, 4, 32} {
		d, h, now := lived(t, slots, 9, 60)
		bound := boundSpots(t, h)
		for round := range 100 {
			r := testRand(round)
			for z := range d.Zones() {
				x := h.Zone(z)
				for i := range x.Frames {
					if !slices.Contains(bound, spot{z, i}) {
						x.Frames[i] = [][]byte{nil, forty('r'), h.Log(r.IntN(h.Logged()))}[r.IntN(3)]
					}
				}
				h.Lay(z, x)
			}
			addRubbish(h, d.Zones(), slots, r)
			s := mustMount(t, d)
			if !sameBlocks(allOf(t, s, 9), now) {
				t.Fatalf("P8: beside rubbish the blocks are others")
			}
		}
		s := mustMount(t, d)
		for i := range 500 {
			n := i % 9
			now[n] = blockOf(i)
			wantErrno(t, "P16: Write behind Mount beside rubbish", s.Write(n, now[n]), api.OK)
			if i%20 == 0 {
				wantErrno(t, "P16: Sync behind Mount beside rubbish", s.Sync(), api.OK)
			}
		}
		if !sameBlocks(allOf(t, s, 9), now) || h.Wrong() != 0 {
			t.Fatalf("P16: beside rubbish the blocks are others")
		}
	}
}

// The document's example: all zones are what they were ahead of the last Sync.
func TestExampleOfZonesBroughtBack(t *testing.T) {
	for _, slots := range []int{1, 2, 8, 32} {
		d, h := api.NewDisk(least(slots, 5), slots)
		s := mustFormat(t, d, 5)
		for i := range 60 {
			if i%3 > 0 {
				wantErrno(t, "P9: Write", s.Write(i%5, blockOf(i)), api.OK)
			}
			before := take(h, d.Zones())
			wantErrno(t, "P12: Sync", s.Sync(), api.OK)
			now := take(h, d.Zones())
			before.lay(h)
			wantNoMount(t, "zones brought back", d, h, testKey, api.ErrIntegrity)
			now.lay(h)
		}
		if !bytes.Equal(allOf(t, mustMount(t, d), 5)[4], blockOf(59)) {
			t.Errorf("P8: the blocks are others")
		}
	}
}

// At the end of the count: the last Mount that advances the anchor, and those behind it.
func TestMountAtTheEndOfTheCount(t *testing.T) {
	for _, left := range []int{0, 1, 2, 3} {
		d, h, now := lived(t, 2, 5, 40)
		h.Bind(api.Anchor{Count: api.MaxNumber - left, Bind: h.Anchor().Bind})
		for round := range 5 {
			s := mustMount(t, d)
			if want := min(api.MaxNumber, api.MaxNumber-left+round+1); h.Anchor().Count != want {
				t.Fatalf("P8: the count is %d, want %d", h.Anchor().Count, want)
			}
			if !sameBlocks(allOf(t, s, 5), now) {
				t.Fatalf("P8: at the end of the count the blocks are others")
			}
			if h.Anchor().Count < api.MaxNumber {
				continue
			}
			logged, calls := h.Logged(), h.Calls()
			wantErrno(t, "P9: Write", s.Write(0, forty('x')), api.ErrSpent)
			wantErrno(t, "P9: Write(5)", s.Write(5, forty('x')), api.ErrArg)
			wantErrno(t, "P11: Trim", s.Trim(0), api.ErrSpent)
			wantErrno(t, "P11: Trim(5)", s.Trim(5), api.ErrArg)
			wantErrno(t, "P12: Sync", s.Sync(), api.ErrSpent)
			if h.Logged() != logged || h.Calls() != calls || h.Wrong() != 0 {
				t.Fatalf("P9 to P12: what is refused did something")
			}
			if !sameBlocks(allOf(t, s, 5), now) {
				t.Fatalf("P10: what is refused was done")
			}
		}
		h.Power(0)
		wantNoMount(t, "no power at the end of the count", d, h, testKey, api.ErrFailed)
	}
}

// A store that was mounted dies as one that was formatted.
func TestMountedStoreDies(t *testing.T) {
	d, h, _ := lived(t, 4, 5, 40)
	s := mustMount(t, d)
	h.Power(0)
	wantErrno(t, "P9: Write without power", s.Write(0, forty('a')), api.ErrFailed)
	h.Power(-1)
	wantDead(t, s, h, api.ErrFailed)
	s = mustMount(t, d)
	for z := range d.Zones() {
		h.Lay(z, api.Zone{})
	}
	if b, e := s.Read(1); b != nil || e != api.ErrIntegrity {
		t.Errorf("P10: Read of what is gone = %q, %d", b, e)
	}
	wantDead(t, s, h, api.ErrIntegrity)
}

// Many disks at once, some with the same key: each has its own store.
func TestMountsHaveNothingToDoWithOneAnother(t *testing.T) {
	var all sync.WaitGroup
	for i := range 8 {
		all.Go(func() {
			d, h := api.NewDisk(least(3, 7)+i, 3)
			s, e := lockbox.Format(d, i/2, 7)
			now := zeros(7)
			for j := 0; j < 500 && e == api.OK; j++ {
				n := (j*j + i) % 7
				now[n] = blockOf(10000*i + j)
				if s.Write(n, now[n]) != api.OK || s.Sync() != api.OK {
					t.Errorf("P2: a store beside others is not OK")
					return
				}
				if s, e = lockbox.Mount(d, i/2); e != api.OK {
					break
				}
				if b, e := s.Read(j % 7); e != api.OK || !bytes.Equal(b, now[j%7]) {
					t.Errorf("P2: a store beside others: Read = %q, %d", b, e)
					return
				}
			}
			if e != api.OK || h.Wrong() != 0 {
				t.Errorf("P2: a Mount beside others = %d, forbidden calls %d", e, h.Wrong())
			}
		})
	}
	all.Wait()
}
