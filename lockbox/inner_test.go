package lockbox

import (
	"bytes"
	"errors"
	"math/rand/v2"
	"runtime"
	"slices"
	"testing"
	"time"

	"lockbox/api"
)

func innerStore(t *testing.T, zones, slots, blocks int) (*Store, *api.Hand) {
	t.Helper()
	d, h := api.NewDisk(zones, slots)
	s, e := Format(d, 7, blocks)
	if e != api.OK {
		t.Fatalf("P7: Format = %d", e)
	}
	for n := range blocks {
		if e := s.Write(n, bytes.Repeat([]byte{byte('a' + n)}, api.BlockSize)); e != api.OK {
			t.Fatalf("P9: Write = %d", e)
		}
	}
	return s, h
}

// turn turns a byte of the frame of a block.
func turn(h *api.Hand, at ref) {
	x := h.Zone(at.zone)
	x.Frames[at.slot][11] ^= 1
	h.Lay(at.zone, x)
}

// A frame may have the right numbers and be another still, if whoever laid it down has the key.
func TestOtherFrameWithTheSameNumbers(t *testing.T) {
	for _, change := range []func(f *api.Frame){
		func(f *api.Frame) { f.Kind = api.Leaf },
		func(f *api.Frame) { f.Index = 3 },
		func(f *api.Frame) { f.Epoch++ },
		func(f *api.Frame) { f.Seq++ },
	} {
		s, h := innerStore(t, 9, 4, 9)
		at := s.blocks[2]
		x := h.Zone(at.zone)
		f, _ := Open(7, x.Frames[at.slot])
		change(&f)
		x.Frames[at.slot], _ = Seal(7, f)
		h.Lay(at.zone, x)
		if b, e := s.Read(2); b != nil || e != api.ErrIntegrity {
			t.Errorf("Read of %+v = %q, %d", f, b, e)
		}
	}
}

// wantFault: the error is of that cause, and its place is told.
func wantFault(t *testing.T, err error, cause error, zone int, slot int) {
	t.Helper()
	var f *fault
	if !errors.Is(err, cause) || !errors.As(err, &f) || f.zone != zone || f.slot != slot {
		t.Fatalf("the error is %v, want one of zone %d and slot %d: %v", err, zone, slot, cause)
	}
}

func TestFaultTellsThePlace(t *testing.T) {
	s, h := innerStore(t, 9, 4, 9)
	at := s.blocks[6]
	turn(h, at)
	if _, e := s.Read(6); e != api.ErrIntegrity {
		t.Fatalf("Read of a turned frame = %d", e)
	}
	wantFault(t, s.dead, errWrong, at.zone, at.slot)

	s, h = innerStore(t, 9, 4, 9)
	at = s.blocks[2]
	h.Power(0)
	if _, e := s.Read(2); e != api.ErrFailed {
		t.Fatalf("Read without power = %d", e)
	}
	wantFault(t, s.dead, errNoPower, at.zone, at.slot)

	s, h = innerStore(t, 64, 32, 1)
	h.Power(2)
	if e := s.Sync(); e != api.ErrFailed {
		t.Fatalf("Sync without power = %d", e)
	}
	wantFault(t, s.dead, errNoPower, nowhere, nowhere)
}

func TestFaultAsText(t *testing.T) {
	for _, c := range []struct {
		f    fault
		want string
	}{
		{fault{"a thing", 3, 14, errWrong}, "a thing (zone 3, slot 14): " + errWrong.Error()},
		{fault{"a thing", nowhere, nowhere, errNoPower}, "a thing: " + errNoPower.Error()},
	} {
		if got := c.f.Error(); got != c.want {
			t.Errorf("%q, want %q", got, c.want)
		}
	}
}

func TestFirstInOrderThatIsWrongCounts(t *testing.T) {
	for first := range 9 {
		s, h := innerStore(t, 9, 4, 9)
		for n := first; n < 9; n += 2 {
			turn(h, s.blocks[n])
		}
		_, err := s.gather(nil)
		wantFault(t, err, errWrong, s.blocks[first].zone, s.blocks[first].slot)
	}
}

// A frame that is not there is wrong in its turn, not ahead of it.
func TestMissingFrameIsWrongInItsTurn(t *testing.T) {
	s, h := innerStore(t, 9, 4, 9)
	turn(h, s.blocks[1])
	at := s.blocks[6]
	x := h.Zone(at.zone)
	x.Frames = x.Frames[:at.slot]
	h.Lay(at.zone, x)
	_, err := s.gather(nil)
	wantFault(t, err, errWrong, s.blocks[1].zone, s.blocks[1].slot)
	h.Power(5)
	_, err = s.gather(nil)
	wantFault(t, err, errNoPower, s.blocks[5].zone, s.blocks[5].slot)
}

// The sequence numbers of an epoch come to their end: a new epoch begins ahead of that.
func TestSequenceNumbersComeToTheirEnd(t *testing.T) {
	for _, slots := range []int{1, 4, 32} {
		const blocks = 5
		for left := framesOf(blocks); left < 60; left++ { // fewer are never left
			s, h := innerStore(t, leastOf(slots, blocks), slots, blocks)
			if s.Sync() != api.OK {
				t.Fatalf("P12: Sync is not OK")
			}
			logged := h.Logged()
			s.seq = api.MaxNumber - left
			for i := range 200 {
				if e := s.Write(i%blocks, bytes.Repeat([]byte{byte(i)}, api.BlockSize)); e != api.OK {
					t.Fatalf("P16: Write = %d", e)
				}
			}
			if e := s.Sync(); e != api.OK || h.Wrong() != 0 {
				t.Fatalf("P16: Sync = %d, forbidden %d", e, h.Wrong())
			}
			var last api.Frame
			for i := logged; i < h.Logged(); i++ {
				f, e := Open(7, h.Log(i))
				if e != api.OK || f.Epoch == last.Epoch && f.Seq <= last.Seq {
					t.Fatalf("P15: frame %d: %+v, %d, behind %+v", i, f, e, last)
				}
				last = f
			}
		}
	}
}

func TestNoGoroutineIsLeft(t *testing.T) {
	before := runtime.NumGoroutine()
	s, h := innerStore(t, 43, 1, 16)
	for i := range 200 {
		s.Write(i%16, make([]byte, api.BlockSize))
	}
	for range 20 {
		s.sync()
		Mount(s.disk, 7)
	}
	turn(h, s.blocks[3])
	s.move()
	Mount(s.disk, 7)
	for range 1000 { // one that has done its work may be on its way out
		if runtime.NumGoroutine() <= before {
			return
		}
		time.Sleep(time.Millisecond)
	}
	t.Errorf("%d goroutines are left", runtime.NumGoroutine()-before)
}

// forgery: a disk that one has made who has the key.
type forgery struct {
	d     *api.Disk
	h     *api.Hand
	r     *rand.Rand
	seq   int
	wrong bool // whether some refs are any bytes
}

// put lays a frame into some zone, and tells its ref.
func (f *forgery) put(kind, index int, body []byte) ref {
	zone := f.r.IntN(f.d.Zones())
	x := f.h.Zone(zone)
	f.seq++
	b, _ := Seal(7, api.Frame{Kind: kind, Index: index, Epoch: 1, Seq: f.seq, Body: body})
	x.Frames = append(x.Frames, b)
	f.h.Lay(zone, x)
	return ref{zone, len(x.Frames) - 1, 1, f.seq}
}

// body tells refs in a body, some of which may be wrong.
func (f *forgery) body(refs []ref) []byte {
	b := bodyOf(refs)
	for range 3 {
		if f.wrong && f.r.IntN(6) == 0 {
			b[f.r.IntN(len(b))] = byte(f.r.IntN(256))
		}
	}
	return b
}

// bind lays a store of so many blocks all over the disk, and binds it.
func (f *forgery) bind(blocks int) {
	v := newVersion(blocks)
	for n := range v.blocks {
		v.blocks[n] = f.put(api.Data, n, make([]byte, api.BlockSize))
	}
	for leaf := range v.leaves {
		v.leaves[leaf] = f.put(api.Leaf, leaf, f.body(under(v.blocks, leaf)))
	}
	root := f.put(api.Root, blocks, f.body(v.leaves))
	f.h.Bind(api.Anchor{Count: 2, Bind: bindOf(blocks, root)})
}

// Whatever lies on the disk, even if it was made with the key: every call ends and none panics.
func TestForgedStores(t *testing.T) {
	mounted, refused := 0, 0
	for seed := range 4000 {
		r := rand.New(rand.NewPCG(uint64(seed), 2))
		slots, blocks := 1+r.IntN(32), 1+r.IntN(16)
		f := &forgery{r: r, wrong: seed%2 == 0}
		f.d, f.h = api.NewDisk(leastOf(slots, blocks)+r.IntN(2), slots)
		f.bind(blocks)
		s, e := Mount(f.d, 7)
		if e != api.OK {
			refused++
			if s != nil || e != api.ErrIntegrity {
				t.Fatalf("P8: Mount of a forged store = %d", e)
			}
			continue
		}
		mounted++
		for i := range 100 {
			calls := f.h.Calls()
			if e := s.Write(i%blocks, bytes.Repeat([]byte{byte(i)}, api.BlockSize)); e != api.OK && e != api.ErrIntegrity {
				t.Fatalf("P9: Write to a forged store = %d", e)
			}
			if e := s.Sync(); e != api.OK && e != api.ErrIntegrity {
				t.Fatalf("P12: Sync of a forged store = %d", e)
			}
			if f.h.Calls()-calls > 8*f.d.Zones()*(slots+1)+200 {
				t.Fatalf("P17: Write and Sync made %d calls", f.h.Calls()-calls)
			}
		}
	}
	if mounted < 500 || refused < 500 {
		t.Errorf("the forging is too good or too bad: %d mounted, %d refused", mounted, refused)
	}
}

// Frames of a store lie in so many zones that everything could not be moved: no store has let it come to that.
func TestForgedStoreAllOverTheDisk(t *testing.T) {
	d, h := api.NewDisk(3, 32)
	lay := func(zone int, f api.Frame) ref {
		f.Epoch, f.Seq = 1, zone
		b, _ := Seal(7, f)
		h.Lay(zone, api.Zone{Frames: [][]byte{b}, Kept: 1})
		return ref{zone, 0, 1, zone}
	}
	block := lay(0, api.Frame{Kind: api.Data, Body: make([]byte, api.BlockSize)})
	leaf := lay(1, api.Frame{Kind: api.Leaf, Body: bodyOf([]ref{block})})
	root := lay(2, api.Frame{Kind: api.Root, Index: 1, Body: bodyOf([]ref{leaf})})
	h.Bind(api.Anchor{Count: 2, Bind: bindOf(1, root)})
	if s, e := Mount(d, 7); s != nil || e != api.ErrIntegrity || h.Anchor().Count != 2 {
		t.Errorf("P8: Mount = %d", e)
	}
}

// A root that is sealed rightly, of a store that has more blocks than a store may have, or none.
func TestForgedNumberOfBlocks(t *testing.T) {
	for blocks := range 256 {
		f := &forgery{r: rand.New(rand.NewPCG(1, 1))}
		f.d, f.h = api.NewDisk(64, 32)
		root := f.put(api.Root, blocks, make([]byte, api.BlockSize))
		f.h.Bind(api.Anchor{Count: 2, Bind: bindOf(blocks, root)})
		want := api.ErrIntegrity
		if isBlocks(blocks) {
			want = api.OK
		}
		if s, e := Mount(f.d, 7); e != want || (s != nil) != (e == api.OK) {
			t.Errorf("P8: Mount of %d blocks = %d, want %d", blocks, e, want)
		}
	}
}

// Of what Mount looks for, the first in order that is wrong counts: the root, the leaves, the blocks.
func TestFirstInOrderThatIsWrongCountsInMount(t *testing.T) {
	s, h := innerStore(t, 9, 8, 16)
	if e := s.Sync(); e != api.OK {
		t.Fatalf("P12: Sync = %d", e)
	}
	v := s.bound
	find := func() error {
		_, err := s.find(v.root)
		return err
	}
	for _, at := range slices.Backward(slices.Concat([]ref{v.root}, v.leaves, v.blocks)) {
		if at.isNone() {
			t.Fatalf("P12: Sync left something out: %+v", v)
		}
		turn(h, at)
		wantFault(t, find(), errWrong, at.zone, at.slot)
	}
	h.Power(0)
	wantFault(t, find(), errNoPower, v.root.zone, v.root.slot)
}
