package lockbox_test

import (
	"bytes"
	"encoding/binary"
	"math/rand/v2"
	"reflect"
	"slices"
	"testing"

	"lockbox/api"
	"lockbox/lockbox"
)

const testKey = 7

// forty: a block of one byte.
func forty(c byte) []byte { return bytes.Repeat([]byte{c}, api.BlockSize) }

// blockOf: a block that is like no other.
func blockOf(n int) []byte {
	out := forty(byte(n))
	binary.BigEndian.PutUint64(out, uint64(n))
	return out
}

// zeros: so many blocks of a new store.
func zeros(blocks int) [][]byte {
	out := make([][]byte, blocks)
	for n := range out {
		out[n] = forty(0)
	}
	return out
}

func mustFormat(t *testing.T, d *api.Disk, blocks int) *lockbox.Store {
	t.Helper()
	s, e := lockbox.Format(d, testKey, blocks)
	if s == nil || e != api.OK {
		t.Fatalf("P7: Format of %d zones of %d slots for %d blocks: %d", d.Zones(), d.Slots(), blocks, e)
	}
	return s
}

func newStore(t *testing.T, zones, slots, blocks int) (*lockbox.Store, *api.Hand) {
	t.Helper()
	d, h := api.NewDisk(zones, slots)
	return mustFormat(t, d, blocks), h
}

// least follows the document's words by counting, not by dividing.
func least(slots, blocks int) int {
	k := blocks + 1
	for quarter := 0; quarter*4 < blocks; quarter++ {
		k++
	}
	m := 0
	for m*slots < k {
		m++
	}
	return 2*m + 1
}

// mostCalls: P17.
func mostCalls(zones, slots int) int { return 4*zones*(slots+1) + 100 }

// disk: all that lies on a disk.
type disk struct {
	zones  []api.Zone
	anchor api.Anchor
	logged int
}

func take(h *api.Hand, zones int) disk {
	out := disk{anchor: h.Anchor(), logged: h.Logged()}
	for z := range zones {
		out.zones = append(out.zones, h.Zone(z))
	}
	return out
}

func (d disk) is(other disk) bool { return reflect.DeepEqual(d, other) }

// lay brings all zones back to what they were.
func (d disk) lay(h *api.Hand) {
	for z, x := range d.zones {
		h.Lay(z, x)
	}
}

// cut is what the power does when it goes: each zone has its first frames still, those that were kept at least.
func cut(h *api.Hand, zones int, r *rand.Rand) {
	for z := range zones {
		x := h.Zone(z)
		x.Frames = x.Frames[:x.Kept+r.IntN(len(x.Frames)-x.Kept+1)]
		x.Kept = len(x.Frames)
		h.Lay(z, x)
	}
	h.Power(-1)
}

// place: how a frame is told of in a body, in ten bytes.
type place struct{ zone, slot, epoch, seq int }

func placesIn(b []byte) []place {
	var out []place
	for ; len(b) >= 10; b = b[10:] {
		out = append(out, place{int(b[0]), int(b[1]), int(binary.BigEndian.Uint32(b[2:])), int(binary.BigEndian.Uint32(b[6:]))})
	}
	return out
}

// zonesByHand: the zones that were looked at; whoever asks for one gets a copy, which takes time.
type zonesByHand struct {
	h    *api.Hand
	seen map[int]api.Zone
}

// found opens the frame that must lie at a place.
func (w zonesByHand) found(t *testing.T, p place, kind, index int) api.Frame {
	t.Helper()
	if _, ok := w.seen[p.zone]; !ok {
		w.seen[p.zone] = w.h.Zone(p.zone)
	}
	frames := w.seen[p.zone].Frames
	if p.slot >= len(frames) {
		t.Fatalf("what is bound is not there: kind %d, index %d, %+v", kind, index, p)
	}
	f, e := lockbox.Open(testKey, frames[p.slot])
	if e != api.OK || f.Kind != kind || f.Index != index || f.Epoch != p.epoch || f.Seq != p.seq {
		t.Fatalf("what is bound is not there: kind %d, index %d, %+v: %+v, %d", kind, index, p, f, e)
	}
	return f
}

// boundBlocks walks down from the anchor: which blocks would be there if the store were taken up now? (None, if nothing is bound.)
func boundBlocks(t *testing.T, h *api.Hand) [][]byte {
	t.Helper()
	bind := h.Anchor().Bind
	if len(bind) == 0 {
		return nil
	}
	out := zeros(int(bind[0]))
	w := zonesByHand{h, map[int]api.Zone{}}
	root := w.found(t, placesIn(bind[1:])[0], api.Root, len(out))
	for i, leafAt := range placesIn(root.Body) {
		if leafAt == (place{}) {
			continue
		}
		leaf := w.found(t, leafAt, api.Leaf, i)
		for j, at := range placesIn(leaf.Body) {
			if at != (place{}) {
				out[4*i+j] = w.found(t, at, api.Data, 4*i+j).Body
			}
		}
	}
	return out
}

func sameBlocks(a, b [][]byte) bool { return slices.EqualFunc(a, b, bytes.Equal) }

// wantRead: Read tells that block, in new memory.
func wantRead(t *testing.T, s *lockbox.Store, n int, want []byte) {
	t.Helper()
	if b, e := s.Read(n); e != api.OK || !bytes.Equal(b, want) {
		t.Fatalf("P10: Read(%d) = %q, %d, want %q", n, b, e, want)
	}
}

func wantErrno(t *testing.T, what string, got, want api.Errno) {
	t.Helper()
	if got != want {
		t.Fatalf("%s = %d, want %d", what, got, want)
	}
}

// wantDead: every call of the store is that error, and makes no call of the disk.
func wantDead(t *testing.T, s *lockbox.Store, h *api.Hand, e api.Errno) {
	t.Helper()
	calls := h.Calls()
	for _, n := range []int{0, 1, -1, 1 << 40} {
		if b, f := s.Read(n); b != nil || f != e {
			t.Fatalf("a dead store: Read(%d) = %q, %d, want %d", n, b, f, e)
		}
		wantErrno(t, "a dead store: Trim", s.Trim(n), e)
		wantErrno(t, "a dead store: Write", s.Write(n, forty('d')), e)
		wantErrno(t, "a dead store: Write of nothing", s.Write(n, nil), e)
	}
	wantErrno(t, "a dead store: Sync", s.Sync(), e)
	if h.Calls() != calls {
		t.Fatalf("a dead store made %d calls of the disk", h.Calls()-calls)
	}
}
