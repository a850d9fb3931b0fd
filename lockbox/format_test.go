package lockbox_test

import (
	"math"
	"testing"

	"lockbox/api"
	"lockbox/lockbox"
)

func TestLeastExamples(t *testing.T) {
	for _, c := range []struct{ slots, blocks, want int }{
		{2, 1, 5}, {1, 16, 43}, {32, 16, 3}, {1, 1, 7}, {32, 1, 3}, {21, 16, 3}, {20, 16, 5},
	} {
		if n, e := lockbox.Least(c.slots, c.blocks); n != c.want || e != api.OK {
			t.Errorf("P6: Least(%d, %d) = %d, %d, want %d", c.slots, c.blocks, n, e, c.want)
		}
	}
}

func TestLeastOfAll(t *testing.T) {
	for slots := 1; slots <= api.MaxSlots; slots++ {
		for blocks := 1; blocks <= api.MaxBlocks; blocks++ {
			if n, e := lockbox.Least(slots, blocks); n != least(slots, blocks) || e != api.OK {
				t.Errorf("P6: Least(%d, %d) = %d, %d, want %d", slots, blocks, n, e, least(slots, blocks))
			}
		}
	}
}

func TestLeastOutside(t *testing.T) {
	for _, c := range [][2]int{
		{0, 1}, {33, 1}, {1, 0}, {1, 17}, {32, 17}, {33, 16}, {0, 0}, {-1, 1}, {1, -1}, {-1, -1},
		{math.MinInt, 1}, {math.MaxInt, 1}, {1, math.MinInt}, {1, math.MaxInt}, {1<<32 + 1, 1}, {1, 1<<32 + 1},
	} {
		if n, e := lockbox.Least(c[0], c[1]); n != 0 || e != api.ErrArg {
			t.Errorf("P6: Least(%d, %d) = %d, %d, want 0, ErrArg", c[0], c[1], n, e)
		}
	}
}

// A formatting: a disk with its anchor, what is asked for, and what is to come of it.
type formatting struct {
	zones, slots, count, key, blocks int
	want                             api.Errno
}

func (c formatting) check(t *testing.T) {
	t.Helper()
	d, h := api.NewDisk(c.zones, c.slots)
	h.Bind(api.Anchor{Count: c.count, Bind: []byte("bound")})
	h.Lay(0, api.Zone{Frames: [][]byte{forty(1), {}, nil}, Kept: 1})
	before := take(h, c.zones)
	s, e := lockbox.Format(d, c.key, c.blocks)
	if e != c.want || (s != nil) != (e == api.OK) || h.Wrong() != 0 {
		t.Errorf("P7: Format of %+v: %d (store: %t, forbidden: %d)", c, e, s != nil, h.Wrong())
	}
	if e != api.OK && !take(h, c.zones).is(before) {
		t.Errorf("P7: Format of %+v was refused, and the disk is another", c)
	}
	if h.Calls() > mostCalls(c.zones, min(max(0, c.slots), api.MaxSlots)) {
		t.Errorf("P17: Format of %+v made %d calls", c, h.Calls())
	}
}

func TestFormatArguments(t *testing.T) {
	const last = api.MaxNumber
	for _, key := range inside {
		formatting{7, 1, 0, key, 1, api.OK}.check(t)
	}
	for _, key := range outside {
		formatting{7, 1, 0, key, 1, api.ErrArg}.check(t)
		formatting{6, 99, last, key, 1, api.ErrArg}.check(t)
	}
	for blocks := 1; blocks <= api.MaxBlocks; blocks++ {
		formatting{64, 32, 0, 0, blocks, api.OK}.check(t)
	}
	for _, blocks := range []int{0, 17, -1, 255, 256 + 1, 1<<32 + 1, math.MinInt, math.MaxInt} {
		formatting{64, 32, 0, 0, blocks, api.ErrArg}.check(t)
		formatting{65, 0, last, 0, blocks, api.ErrArg}.check(t)
	}
	for _, c := range []struct{ key, blocks int }{{0, 1}, {-1, 1}, {0, 0}} {
		if s, e := lockbox.Format(nil, c.key, c.blocks); s != nil || e != api.ErrArg {
			t.Errorf("P7: Format of no disk: %d", e)
		}
	}
}

func TestFormatGeometry(t *testing.T) {
	for slots := 1; slots <= api.MaxSlots; slots++ {
		for blocks := 1; blocks <= api.MaxBlocks; blocks++ {
			n := least(slots, blocks)
			formatting{n - 1, slots, 0, 7, blocks, api.ErrGeometry}.check(t)
			formatting{n, slots, 0, 7, blocks, api.OK}.check(t)
		}
		formatting{64, slots, 0, 7, 16, api.OK}.check(t)
		formatting{65, slots, 0, 7, 16, api.ErrGeometry}.check(t)
	}
	for _, slots := range []int{0, -1, 33, math.MinInt, math.MaxInt} {
		for _, zones := range []int{0, 3, 43, 64, 65} {
			formatting{zones, slots, 0, 7, 1, api.ErrGeometry}.check(t)
			formatting{zones, slots, api.MaxNumber, 7, 1, api.ErrGeometry}.check(t)
		}
	}
	formatting{4, 2, 0, 7, 1, api.ErrGeometry}.check(t)
	formatting{0, 1, 0, 7, 1, api.ErrGeometry}.check(t)
	formatting{1000, 1, 0, 7, 1, api.ErrGeometry}.check(t)
}

func TestFormatWhenTheAnchorIsSpent(t *testing.T) {
	const last = api.MaxNumber
	for _, c := range []formatting{
		{7, 1, last - 3, 7, 1, api.OK},
		{7, 1, last - 2, 7, 1, api.OK},
		{7, 1, last - 1, 7, 1, api.ErrSpent},
		{7, 1, last, 7, 1, api.ErrSpent},
		{6, 1, last, 7, 1, api.ErrGeometry},
	} {
		c.check(t)
	}
}

func TestStoreOfTheLastCount(t *testing.T) {
	d, h := api.NewDisk(7, 1)
	h.Bind(api.Anchor{Count: api.MaxNumber - 2})
	s := mustFormat(t, d, 1)
	if h.Anchor().Count != api.MaxNumber || !sameBlocks(boundBlocks(t, h), zeros(1)) {
		t.Errorf("P7: the last store does not last: the count is %d", h.Anchor().Count)
	}
	wantRead(t, s, 0, forty(0))
	calls := h.Calls()
	wantErrno(t, "P9: Write", s.Write(0, forty('a')), api.ErrSpent)
	wantErrno(t, "P11: Trim", s.Trim(0), api.ErrSpent)
	wantErrno(t, "P12: Sync", s.Sync(), api.ErrSpent)
	wantErrno(t, "P9: Write(1)", s.Write(1, forty('a')), api.ErrArg)
	wantErrno(t, "P11: Trim(1)", s.Trim(1), api.ErrArg)
	wantRead(t, s, 0, forty(0))
	if h.Calls() != calls {
		t.Errorf("P9, P11, P12: %d calls of the disk for what is refused", h.Calls()-calls)
	}
}

// full lays something into all slots of all zones.
func full(h *api.Hand, zones, slots int) {
	for z := range zones {
		var x api.Zone
		for i := range slots {
			f, _ := lockbox.Seal(testKey, api.Frame{Kind: api.Data, Index: i % 4, Epoch: 1, Seq: i, Body: forty('o')})
			x.Frames = append(x.Frames, f)
		}
		x.Kept = slots
		h.Lay(z, x)
	}
}

func TestNewStoreIsAllZero(t *testing.T) {
	for _, blocks := range []int{1, 4, 5, 16} {
		zones := least(3, blocks)
		d, h := api.NewDisk(zones, 3)
		full(h, zones, 3)
		for round := range 3 {
			s := mustFormat(t, d, blocks)
			if !sameBlocks(boundBlocks(t, h), zeros(blocks)) {
				t.Errorf("P7: a new store of %d blocks does not last", blocks)
			}
			for z := range zones {
				for _, b := range h.Zone(z).Frames {
					if f, e := lockbox.Open(testKey, b); e != api.OK || f.Epoch != h.Anchor().Count-1 {
						t.Errorf("P7: what was on the disk is there still: %+v, %d", f, e)
					}
				}
			}
			for n := range blocks {
				wantRead(t, s, n, forty(0))
				wantErrno(t, "P9: Write", s.Write(n, forty(byte('a'+round))), api.OK)
			}
			wantErrno(t, "P12: Sync", s.Sync(), api.OK)
		}
		if h.Wrong() != 0 {
			t.Errorf("P13: the disk forbade %d calls", h.Wrong())
		}
	}
}

func TestFormatWhenThePowerGoes(t *testing.T) {
	const zones, slots, blocks = 7, 3, 5
	for power := range 100 {
		d, h := api.NewDisk(zones, slots)
		old := mustFormat(t, d, blocks)
		wantErrno(t, "P9: Write", old.Write(3, forty('a')), api.OK)
		wantErrno(t, "P12: Sync", old.Sync(), api.OK)
		before := boundBlocks(t, h)
		h.Power(power)
		s, e := lockbox.Format(d, testKey, blocks)
		if e == api.OK {
			if power == 0 || s == nil {
				t.Errorf("P7: Format without power")
			}
			return
		}
		if s != nil || e != api.ErrFailed || h.Wrong() != 0 {
			t.Fatalf("P7: the power goes at call %d: %d", power, e)
		}
		cut(h, zones, testRand(power))
		if now := boundBlocks(t, h); now != nil && !sameBlocks(now, before) && !sameBlocks(now, zeros(blocks)) {
			t.Fatalf("P13: the power goes at call %d of Format, and the blocks are %q", power, now)
		}
		mustFormat(t, d, blocks)
	}
	t.Errorf("P7: Format makes 100 calls of the disk or more")
}
