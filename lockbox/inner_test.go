package lockbox

import (
	"bytes"
	"errors"
	"runtime"
	"strings"
	"testing"

	"lockbox/api"
)

func innerStore(t *testing.T, zones, slots, blocks int) (*Store, *api.Hand) {
	t.Helper()
	d, h := api.NewDisk(zones, slots)
	s, e := Format(d, 7, blocks)
	if e != api.OK {
		t.Fatalf("P7: Format = %d", e)
	}
	for n := range blocks {
		if e := s.Write(n, bytes.Repeat([]byte{byte('a' + n)}, api.BlockSize)); e != api.OK {
			t.Fatalf("P9: Write = %d", e)
		}
	}
	return s, h
}

// turn turns a byte of the frame of a block.
func turn(h *api.Hand, at ref) {
	x := h.Zone(at.zone)
	x.Frames[at.slot][11] ^= 1
	h.Lay(at.zone, x)
}

// A frame may have the right numbers and be another still, if whoever laid it down has the key.
func TestOtherFrameWithTheSameNumbers(t *testing.T) {
	for _, change := range []func(f *api.Frame){
		func(f *api.Frame) { f.Kind = api.Leaf },
		func(f *api.Frame) { f.Index = 3 },
		func(f *api.Frame) { f.Epoch++ },
		func(f *api.Frame) { f.Seq++ },
	} {
		s, h := innerStore(t, 9, 4, 9)
		at := s.blocks[2]
		x := h.Zone(at.zone)
		f, _ := Open(7, x.Frames[at.slot])
		change(&f)
		x.Frames[at.slot], _ = Seal(7, f)
		h.Lay(at.zone, x)
		if b, e := s.Read(2); b != nil || e != api.ErrIntegrity {
			t.Errorf("Read of %+v = %q, %d", f, b, e)
		}
	}
}

// wantFault: the error is of that cause, and its place is told.
func wantFault(t *testing.T, err error, cause error, zone int, slot int) {
	t.Helper()
	var f *fault
	if !errors.Is(err, cause) || !errors.As(err, &f) || f.zone != zone || f.slot != slot {
		t.Fatalf("the error is %v, want one of zone %d and slot %d: %v", err, zone, slot, cause)
	}
}

func TestFaultTellsThePlace(t *testing.T) {
	s, h := innerStore(t, 9, 4, 9)
	at := s.blocks[6]
	turn(h, at)
	if _, e := s.Read(6); e != api.ErrIntegrity {
		t.Fatalf("Read of a turned frame = %d", e)
	}
	wantFault(t, s.dead, errWrong, at.zone, at.slot)

	s, h = innerStore(t, 9, 4, 9)
	at = s.blocks[2]
	h.Power(0)
	if _, e := s.Read(2); e != api.ErrFailed {
		t.Fatalf("Read without power = %d", e)
	}
	wantFault(t, s.dead, errNoPower, at.zone, at.slot)

	s, h = innerStore(t, 64, 32, 1)
	h.Power(2)
	if e := s.Sync(); e != api.ErrFailed {
		t.Fatalf("Sync without power = %d", e)
	}
	wantFault(t, s.dead, errNoPower, nowhere, nowhere)
}

func TestFaultAsText(t *testing.T) {
	for _, c := range []struct {
		f    fault
		want string
	}{
		{fault{"a thing", 3, 14, errWrong}, "a thing (zone 3, slot 14): " + errWrong.Error()},
		{fault{"a thing", nowhere, nowhere, errNoPower}, "a thing: " + errNoPower.Error()},
	} {
		if got := c.f.Error(); got != c.want {
			t.Errorf("%q, want %q", got, c.want)
		}
	}
}

func TestFirstInOrderThatIsWrongCounts(t *testing.T) {
	for first := range 9 {
		s, h := innerStore(t, 9, 4, 9)
		for n := first; n < 9; n += 2 {
			turn(h, s.blocks[n])
		}
		_, err := s.gather(nil)
		wantFault(t, err, errWrong, s.blocks[first].zone, s.blocks[first].slot)
	}
}

// A frame that is not there is wrong in its turn, not ahead of it.
func TestMissingFrameIsWrongInItsTurn(t *testing.T) {
	s, h := innerStore(t, 9, 4, 9)
	turn(h, s.blocks[1])
	at := s.blocks[6]
	x := h.Zone(at.zone)
	x.Frames = x.Frames[:at.slot]
	h.Lay(at.zone, x)
	_, err := s.gather(nil)
	wantFault(t, err, errWrong, s.blocks[1].zone, s.blocks[1].slot)
	h.Power(5)
	_, err = s.gather(nil)
	wantFault(t, err, errNoPower, s.blocks[5].zone, s.blocks[5].slot)
}

// The sequence numbers of an epoch come to their end: a new epoch begins ahead of that.
func TestSequenceNumbersComeToTheirEnd(t *testing.T) {
	for _, slots := range []int{1, 4, 32} {
		const blocks = 5
		for left := framesOf(blocks); left < 60; left++ { // fewer are never left
			s, h := innerStore(t, leastOf(slots, blocks), slots, blocks)
			if s.Sync() != api.OK {
				t.Fatalf("P12: Sync is not OK")
			}
			logged := h.Logged()
			s.seq = api.MaxNumber - left
			for i := range 200 {
				if e := s.Write(i%blocks, bytes.Repeat([]byte{byte(i)}, api.BlockSize)); e != api.OK {
					t.Fatalf("P16: Write = %d", e)
				}
			}
			if e := s.Sync(); e != api.OK || h.Wrong() != 0 {
				t.Fatalf("P16: Sync = %d, forbidden %d", e, h.Wrong())
			}
			var last api.Frame
			for i := logged; i < h.Logged(); i++ {
				f, e := Open(7, h.Log(i))
				if e != api.OK || f.Epoch == last.Epoch && f.Seq <= last.Seq {
					t.Fatalf("P15: frame %d: %+v, %d, behind %+v", i, f, e, last)
				}
				last = f
			}
		}
	}
}

func TestNoGoroutineIsLeft(t *testing.T) {
	before := runtime.NumGoroutine()
	s, h := innerStore(t, 43, 1, 16)
	for i := range 200 {
		s.Write(i%16, make([]byte, api.BlockSize))
	}
	turn(h, s.blocks[3])
	s.move()
	if now := runtime.NumGoroutine(); now > before {
		buf := make([]byte, 1<<16)
		if strings.Contains(string(buf[:runtime.Stack(buf, true)]), "lockbox.(*log)") {
			t.Errorf("%d goroutines are left", now-before)
		}
	}
}
