package lockbox_test

import (
	"slices"
	"testing"

	"lockbox/api"
	"lockbox/lockbox"
)

// history: the blocks as they were at each moment since they lasted for certain.
type history struct{ moments [][][]byte }

func (y *history) last() [][]byte { return y.moments[len(y.moments)-1] }

// becomes: block n is b now.
func (y *history) becomes(n int, b []byte) {
	next := slices.Clone(y.last())
	next[n] = b
	y.moments = append(y.moments, next)
}

func (y *history) lasts() { y.moments = y.moments[len(y.moments)-1:] }

func (y *history) has(blocks [][]byte) bool {
	return slices.ContainsFunc(y.moments, func(m [][]byte) bool { return sameBlocks(m, blocks) })
}

// act makes the i-th call of a run on a store, and tells its answer. What it is to do stands in y whether it is done or not.
func act(t *testing.T, s *lockbox.Store, i, blocks int, y *history) api.Errno {
	t.Helper()
	n := i * 7 % blocks
	switch {
	case i%11 == 10:
		y.becomes(n, forty(0))
		return s.Trim(n)
	case i%5 == 4:
		e := s.Sync()
		if e == api.OK {
			y.lasts()
		}
		return e
	case i%3 == 2:
		b, e := s.Read(n)
		if e == api.OK && !slices.Equal(b, y.last()[n]) {
			t.Fatalf("P10: Read(%d) = %q, want %q", n, b, y.last()[n])
		}
		return e
	}
	y.becomes(n, blockOf(i))
	return s.Write(n, blockOf(i))
}

// untilDead runs a store until the power is gone; tells whether it was gone ahead of the end.
func untilDead(t *testing.T, s *lockbox.Store, h *api.Hand, blocks int, y *history) bool {
	t.Helper()
	for i := range 120 {
		off, calls := h.Left() == 0, h.Calls()
		e := act(t, s, i, blocks, y)
		if e == api.OK {
			if off && h.Calls() != calls {
				t.Fatalf("a call is OK that the disk did not do")
			}
			continue
		}
		if e != api.ErrFailed || h.Left() != 0 || h.Wrong() != 0 {
			t.Fatalf("P13: call %d = %d, forbidden %d, power for %d calls", i, e, h.Wrong(), h.Left())
		}
		wantDead(t, s, h, api.ErrFailed)
		h.Power(-1)
		wantDead(t, s, h, api.ErrFailed)
		return true
	}
	return false
}

func TestThePowerGoesAtAnyCall(t *testing.T) {
	for _, c := range []struct{ slots, blocks int }{{1, 1}, {1, 5}, {2, 4}, {3, 9}, {5, 16}, {32, 16}, {4, 5}} {
		zones := least(c.slots, c.blocks)
		for power := 0; ; power++ {
			s, h := newStore(t, zones, c.slots, c.blocks)
			h.Power(power)
			y := &history{[][][]byte{zeros(c.blocks)}}
			died := untilDead(t, s, h, c.blocks, y)
			cut(h, zones, testRand(power))
			if now := boundBlocks(t, h); !y.has(now) {
				t.Fatalf("P13: slots %d, blocks %d, the power goes at call %d: the blocks are %q", c.slots, c.blocks, power, now)
			}
			if !died {
				break
			}
		}
	}
}

// The document's example: what is there behind the power went is never (a, c).
func TestExampleOfThePower(t *testing.T) {
	for power := range 40 {
		s, h := newStore(t, least(2, 5), 2, 5)
		s.Write(0, forty('a'))
		wantErrno(t, "P12: Sync", s.Sync(), api.OK)
		h.Power(power)
		if s.Write(0, forty('b')) == api.OK {
			s.Write(1, forty('c'))
		}
		cut(h, least(2, 5), testRand(power))
		y := &history{[][][]byte{{forty('a'), forty(0), forty(0), forty(0), forty(0)}}}
		y.becomes(0, forty('b'))
		y.becomes(1, forty('c'))
		if now := boundBlocks(t, h); !y.has(now) {
			t.Errorf("P13: the power goes at call %d: %q", power, now)
		}
	}
}

// A call that needs the disk for nothing goes well without power; one that needs it does not.
func TestCallsWithoutPower(t *testing.T) {
	for name, call := range map[string]func(s *lockbox.Store) api.Errno{
		"Write": func(s *lockbox.Store) api.Errno { return s.Write(1, forty('b')) },
		"Read":  func(s *lockbox.Store) api.Errno { _, e := s.Read(0); return e },
		"Sync":  func(s *lockbox.Store) api.Errno { return s.Sync() },
	} {
		s, h := newStore(t, 5, 4, 5)
		wantErrno(t, "P9: Write", s.Write(0, forty('a')), api.OK)
		h.Power(0)
		wantErrno(t, name+" of no block without power", s.Write(5, forty('a')), api.ErrArg)
		wantRead(t, s, 1, forty(0))
		wantErrno(t, name+" without power", call(s), api.ErrFailed)
		wantDead(t, s, h, api.ErrFailed)
		h.Power(-1)
		wantDead(t, s, h, api.ErrFailed)
	}
}
