package lockbox_test

import (
	"bytes"
	"testing"

	"lockbox/api"
	"lockbox/lockbox"
)

// keeper: a store, and what it must hold.
type keeper struct {
	s     *lockbox.Store
	h     *api.Hand
	most  int
	now   [][]byte
	calls int
	syncs int
}

func newKeeper(t *testing.T, zones, slots, blocks int) *keeper {
	t.Helper()
	s, h := newStore(t, zones, slots, blocks)
	return &keeper{s: s, h: h, most: mostCalls(zones, slots), now: zeros(blocks), calls: h.Calls()}
}

// fine holds a call against P13, P16 and P17.
func (k *keeper) fine(t *testing.T, what string, e api.Errno) {
	t.Helper()
	if made := k.h.Calls() - k.calls; e != api.OK || k.h.Wrong() != 0 || made > k.most {
		t.Fatalf("P13, P16, P17: %s = %d, forbidden calls %d, calls %d of at most %d", what, e, k.h.Wrong(), made, k.most)
	}
	k.calls = k.h.Calls()
}

func (k *keeper) write(t *testing.T, n int, b []byte) {
	t.Helper()
	k.fine(t, "Write", k.s.Write(n, b))
	k.now[n] = b
}

func (k *keeper) trim(t *testing.T, n int) {
	t.Helper()
	k.fine(t, "Trim", k.s.Trim(n))
	k.now[n] = forty(0)
}

func (k *keeper) sync(t *testing.T) {
	t.Helper()
	k.fine(t, "Sync", k.s.Sync())
	k.syncs++
	if k.syncs%10 == 0 && !sameBlocks(boundBlocks(t, k.h), k.now) {
		t.Fatalf("P12: behind Sync not all lasts")
	}
}

func (k *keeper) read(t *testing.T, n int) {
	t.Helper()
	b, e := k.s.Read(n)
	k.fine(t, "Read", e)
	if !bytes.Equal(b, k.now[n]) {
		t.Fatalf("P10: Read(%d) = %q, want %q", n, b, k.now[n])
	}
}

// going: how often each thing is done, of a hundred.
type going struct{ trims, syncs int }

// goOn writes, trims, syncs and reads as chance has it.
func (k *keeper) goOn(t *testing.T, times int, how going, seed int) {
	t.Helper()
	r := testRand(seed)
	for i := range times {
		n := r.IntN(len(k.now))
		switch c := r.IntN(100); {
		case c < how.trims:
			k.trim(t, n)
		case c < how.trims+how.syncs:
			k.sync(t)
		default:
			k.write(t, n, blockOf(i))
		}
		k.read(t, r.IntN(len(k.now)))
	}
}

func TestThereIsAlwaysRoom(t *testing.T) {
	for slots := 1; slots <= api.MaxSlots; slots++ {
		t.Run("", func(t *testing.T) {
			t.Parallel()
			for blocks := 1; blocks <= api.MaxBlocks; blocks++ {
				for i, how := range []going{{0, 0}, {5, 5}, {20, 40}} {
					newKeeper(t, least(slots, blocks), slots, blocks).goOn(t, 2000, how, i)
				}
			}
		})
	}
}

func TestThereIsRoomOnGreaterDisks(t *testing.T) {
	for _, slots := range []int{1, 2, 7, 32} {
		for _, blocks := range []int{1, 5, 16} {
			for _, zones := range []int{least(slots, blocks) + 1, 63, 64} {
				newKeeper(t, zones, slots, blocks).goOn(t, 5000, going{5, 10}, zones)
			}
		}
	}
}

// All blocks in turn, with a Sync behind each one: the most leaves and roots; and all of them between two: the most to be bound at once.
func TestRoomWithAllBlocksInTurn(t *testing.T) {
	for slots := 1; slots <= api.MaxSlots; slots++ {
		for _, blocks := range []int{1, 4, 5, 13, 16} {
			for _, syncEach := range []int{1, 2, blocks, 3 * blocks} {
				k := newKeeper(t, least(slots, blocks), slots, blocks)
				for i := range 400 {
					k.write(t, i%blocks, blockOf(i))
					if i%syncEach == 0 {
						k.sync(t)
					}
				}
				for n := range blocks {
					k.trim(t, n)
					k.sync(t)
					k.read(t, n)
				}
			}
		}
	}
}

// P15 of what is appended here: no number twice, every frame opens, every block is as it is.
func TestNoNumberIsUsedTwice(t *testing.T) {
	for _, slots := range []int{1, 3, 32} {
		const blocks = 5
		zones := least(slots, blocks)
		d, h := api.NewDisk(zones, slots)
		type number struct{ epoch, seq int }
		seen := map[number]bool{}
		checked := 0
		now := zeros(blocks)
		check := func(n int, was []byte) {
			t.Helper()
			for ; checked < h.Logged(); checked++ {
				f, e := lockbox.Open(testKey, h.Log(checked))
				at := number{f.Epoch, f.Seq}
				if e != api.OK || seen[at] {
					t.Fatalf("P15: frame %d: %+v, %d; its number was used: %t", checked, f, e, seen[at])
				}
				seen[at] = true
				if f.Kind == api.Data && !bytes.Equal(f.Body, now[f.Index]) && !(f.Index == n && bytes.Equal(f.Body, was)) {
					t.Fatalf("P15: frame %d is block %d, which is another", checked, f.Index)
				}
			}
		}
		for round := range 5 {
			s := mustFormat(t, d, blocks)
			now = zeros(blocks)
			check(-1, nil)
			for i := range 500 {
				n := i * i % blocks
				was := now[n]
				now[n] = blockOf(1000*round + i)
				wantErrno(t, "P9: Write", s.Write(n, now[n]), api.OK)
				check(n, was)
				if i%5 == 0 {
					wantErrno(t, "P11: Trim", s.Trim(i%blocks), api.OK)
					now[i%blocks] = forty(0)
				}
				if i%7 == 0 {
					wantErrno(t, "P12: Sync", s.Sync(), api.OK)
				}
				check(-1, nil)
			}
		}
	}
}
