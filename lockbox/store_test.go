package lockbox_test

import (
	"bytes"
	"math"
	"math/rand/v2"
	"sync"
	"testing"

	"lockbox/api"
	"lockbox/lockbox"
)

func testRand(seed int) *rand.Rand { return rand.New(rand.NewPCG(uint64(seed), 1)) }

func TestReadTellsWhatWasWrittenLast(t *testing.T) {
	s, h := newStore(t, 5, 4, 5)
	for n := range 5 {
		wantRead(t, s, n, forty(0))
	}
	wantErrno(t, "P9: Write(0)", s.Write(0, forty('a')), api.OK)
	wantErrno(t, "P9: Write(4)", s.Write(4, countingBody()), api.OK)
	wantRead(t, s, 0, forty('a'))
	wantRead(t, s, 4, countingBody())
	wantRead(t, s, 1, forty(0))
	wantErrno(t, "P9: Write(0)", s.Write(0, forty('b')), api.OK)
	wantRead(t, s, 0, forty('b'))
	wantErrno(t, "P11: Trim(0)", s.Trim(0), api.OK)
	wantErrno(t, "P11: Trim(1)", s.Trim(1), api.OK)
	wantRead(t, s, 0, forty(0))
	wantRead(t, s, 1, forty(0))
	wantRead(t, s, 4, countingBody())
	wantErrno(t, "P9: Write(0)", s.Write(0, forty(0)), api.OK)
	wantRead(t, s, 0, forty(0))
	wantErrno(t, "P12: Sync", s.Sync(), api.OK)
	wantRead(t, s, 4, countingBody())
	if h.Wrong() != 0 {
		t.Errorf("P13: the disk forbade %d calls", h.Wrong())
	}
}

func TestWrongBlocks(t *testing.T) {
	for _, blocks := range []int{1, 5, 16} {
		s, h := newStore(t, 64, 4, blocks)
		wantErrno(t, "P9: Write", s.Write(blocks-1, forty('a')), api.OK)
		before, calls := take(h, 64), h.Calls()
		for _, n := range []int{blocks, -1, 16, 255, 256, 1<<32 + blocks - 1, math.MinInt, math.MaxInt} {
			wantErrno(t, "P9: Write of no block", s.Write(n, forty('b')), api.ErrArg)
			wantErrno(t, "P9: Write of nothing into no block", s.Write(n, nil), api.ErrArg)
			wantErrno(t, "P11: Trim of no block", s.Trim(n), api.ErrArg)
			if b, e := s.Read(n); b != nil || e != api.ErrArg {
				t.Errorf("P10: Read(%d) = %q, %d", n, b, e)
			}
		}
		for _, size := range []int{0, 1, 39, 41, 58, 80, 1 << 20} {
			wantErrno(t, "P9: Write of a wrong list", s.Write(0, make([]byte, size)), api.ErrArg)
		}
		wantErrno(t, "P9: Write of no list", s.Write(0, nil), api.ErrArg)
		if !take(h, 64).is(before) || h.Calls() != calls {
			t.Errorf("P9 to P11: what was refused did something")
		}
		wantRead(t, s, blocks-1, forty('a'))
	}
}

func TestErrArgComesAheadOfErrSpent(t *testing.T) {
	d, h := api.NewDisk(7, 1)
	h.Bind(api.Anchor{Count: api.MaxNumber - 2})
	s := mustFormat(t, d, 1)
	wantErrno(t, "P9: Write of 39 bytes", s.Write(0, make([]byte, 39)), api.ErrArg)
	wantErrno(t, "P9: Write of 41 bytes", s.Write(0, make([]byte, 41)), api.ErrArg)
	wantErrno(t, "P9: Write(-1)", s.Write(-1, forty(1)), api.ErrArg)
	wantErrno(t, "P11: Trim(-1)", s.Trim(-1), api.ErrArg)
	if b, e := s.Read(1); b != nil || e != api.ErrArg {
		t.Errorf("P10: Read(1) = %q, %d", b, e)
	}
}

// The anchor's count comes to its end, by Sync or by moving.
func TestCountComesToItsEnd(t *testing.T) {
	for _, syncEach := range []int{1, 2, 5, 100} {
		for _, slots := range []int{1, 3, 32} {
			const blocks = 5
			d, h := api.NewDisk(least(slots, blocks), slots)
			h.Bind(api.Anchor{Count: api.MaxNumber - 9})
			s := mustFormat(t, d, blocks)
			now := zeros(blocks)
			spent := func() bool { return h.Anchor().Count == api.MaxNumber }
			want := func() api.Errno {
				if spent() {
					return api.ErrSpent
				}
				return api.OK
			}
			for i := range 3000 {
				n, e := i*i%blocks, want()
				wantErrno(t, "P9: Write", s.Write(n, blockOf(i)), e)
				if e == api.OK {
					now[n] = blockOf(i)
				}
				e = want()
				if i%7 == 3 {
					wantErrno(t, "P11: Trim", s.Trim(i%blocks), e)
					if e == api.OK {
						now[i%blocks] = forty(0)
					}
				}
				if i%syncEach == 0 {
					e = want()
					wantErrno(t, "P12: Sync", s.Sync(), e)
				}
				wantRead(t, s, i%blocks, now[i%blocks])
			}
			if !spent() || h.Wrong() != 0 {
				t.Errorf("P16: the count is %d, the disk forbade %d calls", h.Anchor().Count, h.Wrong())
			}
		}
	}
}

func TestSyncMakesItLast(t *testing.T) {
	for _, slots := range []int{1, 2, 5, 32} {
		for _, blocks := range []int{1, 4, 5, 16} {
			zones := least(slots, blocks)
			s, h := newStore(t, zones, slots, blocks)
			r := testRand(slots)
			now := zeros(blocks)
			for i := range 300 {
				n := r.IntN(blocks)
				if r.IntN(4) == 0 {
					wantErrno(t, "P11: Trim", s.Trim(n), api.OK)
					now[n] = forty(0)
				} else {
					wantErrno(t, "P9: Write", s.Write(n, blockOf(i)), api.OK)
					now[n] = blockOf(i)
				}
				if r.IntN(3) == 0 {
					wantErrno(t, "P12: Sync", s.Sync(), api.OK)
					before := take(h, zones)
					cut(h, zones, r)
					if !sameBlocks(boundBlocks(t, h), now) {
						t.Fatalf("P12: slots %d, blocks %d: what was done does not last behind Sync", slots, blocks)
					}
					before.lay(h)
				}
			}
		}
	}
}

// A Sync of what lasts already is one as any other.
func TestSyncOfWhatLasts(t *testing.T) {
	for _, slots := range []int{1, 4, 32} {
		zones := least(slots, 5)
		s, h := newStore(t, zones, slots, 5)
		wantErrno(t, "P9: Write", s.Write(2, forty('a')), api.OK)
		for i := range 500 {
			wantErrno(t, "P16: Sync of what lasts", s.Sync(), api.OK)
			wantErrno(t, "P11: Trim of what is nothing", s.Trim(0), api.OK)
			cut(h, zones, testRand(i))
			if now := boundBlocks(t, h); !bytes.Equal(now[2], forty('a')) || h.Wrong() != 0 {
				t.Fatalf("P12: behind Sync the blocks are %q", now)
			}
		}
	}
}

func TestWriteKeepsNothingThatIsHandedIn(t *testing.T) {
	for _, slots := range []int{1, 4} {
		s, h := newStore(t, least(slots, 2), slots, 2)
		for i := range 100 {
			around, b := inTheMiddle(blockOf(i))
			before := bytes.Clone(around)
			wantErrno(t, "P9: Write", s.Write(i%2, b), api.OK)
			if !bytes.Equal(around, before) {
				t.Fatalf("P2: Write wrote into the block, or around it")
			}
			overwrite(around)
			wantRead(t, s, i%2, blockOf(i))
			if i%5 == 0 {
				wantErrno(t, "P12: Sync", s.Sync(), api.OK)
				if !bytes.Equal(boundBlocks(t, h)[i%2], blockOf(i)) {
					t.Fatalf("P2: the store keeps a list that was handed in")
				}
			}
		}
	}
}

func TestReadAnswersNewMemory(t *testing.T) {
	s, _ := newStore(t, 5, 4, 5)
	wantErrno(t, "P9: Write", s.Write(0, forty('a')), api.OK)
	for n, want := range [][]byte{forty('a'), forty(0)} {
		first, _ := s.Read(n)
		second, _ := s.Read(n)
		overwrite(first)
		if !bytes.Equal(second, want) {
			t.Errorf("P2: two answers of Read share memory")
		}
		wantRead(t, s, n, want)
		other, _ := s.Read(2)
		if !bytes.Equal(other, forty(0)) {
			t.Errorf("P2: the answers of two blocks share memory")
		}
	}
}

// Many stores at once, each on a disk of its own, some with the same key.
func TestStoresHaveNothingToDoWithOneAnother(t *testing.T) {
	var all sync.WaitGroup
	for i := range 8 {
		all.Go(func() {
			d, h := api.NewDisk(least(3, 7)+i, 3)
			s, e := lockbox.Format(d, i/2, 7)
			if e != api.OK {
				t.Errorf("P7: Format = %d", e)
				return
			}
			now := zeros(7)
			for j := range 2000 {
				n := (j*j + i) % 7
				now[n] = blockOf(10000*i + j)
				if s.Write(n, now[n]) != api.OK || j%9 == 0 && s.Sync() != api.OK {
					t.Errorf("P2: a store beside others is not OK")
					return
				}
				if b, e := s.Read(j % 7); e != api.OK || !bytes.Equal(b, now[j%7]) {
					t.Errorf("P2: a store beside others: Read = %q, %d", b, e)
					return
				}
			}
			if h.Wrong() != 0 {
				t.Errorf("P13: the disk forbade %d calls", h.Wrong())
			}
		})
	}
	all.Wait()
}

// One store's death is not another's.
func TestAnotherStoreDies(t *testing.T) {
	s, _ := newStore(t, 5, 4, 5)
	other, h := newStore(t, 5, 4, 5)
	h.Power(0)
	wantErrno(t, "P9: Write without power", other.Write(0, forty('a')), api.ErrFailed)
	wantErrno(t, "P9: Write", s.Write(0, forty('b')), api.OK)
	wantErrno(t, "P12: Sync", s.Sync(), api.OK)
	wantRead(t, s, 0, forty('b'))
}
