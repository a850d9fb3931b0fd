package lockbox_test

import (
	"bytes"
	"math"
	"testing"

	"lockbox/api"
	"lockbox/lockbox"
)

// inside and outside: numbers at the edges of what a key, an epoch or a sequence number may be.
var (
	inside  = []int{0, 1, 255, 256, math.MaxInt32, math.MaxInt32 + 1, api.MaxNumber - 1, api.MaxNumber}
	outside = []int{-1, api.MaxNumber + 1, api.MaxNumber + 8, math.MinInt32, math.MinInt, math.MaxInt}
)

func TestStreamExamples(t *testing.T) {
	for _, c := range []struct {
		key, epoch, seq int
		want            string
	}{
		{7, 1, 0, "57 70 f9 2e fa c5 54 cb"},
		{7, 1, 1, "27 e9 61 5e 52 55 d4 b3"},
		{0, 0, 0, "15 b2 13 94 39 86 0e 81"},
	} {
		b, e := lockbox.Stream(c.key, c.epoch, c.seq, 8)
		if e != api.OK || !bytes.Equal(b, unhex(t, c.want)) {
			t.Errorf("P3: Stream(%d, %d, %d, 8) = %x, %d, want %s", c.key, c.epoch, c.seq, b, e, c.want)
		}
	}
}

func TestStreamAtAllLengths(t *testing.T) {
	whole := modelStream(7, 1, 0, api.MaxStream)
	for n := range api.MaxStream + 1 {
		b, e := lockbox.Stream(7, 1, 0, n)
		if e != api.OK || !bytes.Equal(b, whole[:n]) {
			t.Errorf("P3: Stream(7, 1, 0, %d) = %x, %d", n, b, e)
		}
	}
	for _, n := range []int{-1, math.MinInt, api.MaxStream + 1, math.MaxInt32, math.MaxInt} {
		wantNoStream(t, 7, 1, 0, n)
	}
}

func TestStreamAtTheEdgesOfNumbers(t *testing.T) {
	for _, key := range inside {
		for _, epoch := range inside {
			for _, seq := range inside {
				b, e := lockbox.Stream(key, epoch, seq, 3)
				if e != api.OK || !bytes.Equal(b, modelStream(key, epoch, seq, 3)) {
					t.Errorf("P3: Stream(%d, %d, %d, 3) = %x, %d", key, epoch, seq, b, e)
				}
			}
		}
	}
	for _, n := range outside {
		wantNoStream(t, n, 1, 1, 1)
		wantNoStream(t, 1, n, 1, 1)
		wantNoStream(t, 1, 1, n, 1)
		wantNoStream(t, 1, 1, n, 0)
	}
}

func wantNoStream(t *testing.T, key, epoch, seq, n int) {
	t.Helper()
	if b, e := lockbox.Stream(key, epoch, seq, n); b != nil || e != api.ErrArg {
		t.Errorf("P3: Stream(%d, %d, %d, %d) = %x, %d, want nil, ErrArg", key, epoch, seq, n, b, e)
	}
}

func TestStreamIsNewMemory(t *testing.T) {
	for _, n := range []int{0, 1, 40, api.MaxStream} {
		first, _ := lockbox.Stream(7, 1, 0, n)
		second, _ := lockbox.Stream(7, 1, 0, n)
		overwrite(first)
		if !bytes.Equal(second, modelStream(7, 1, 0, n)) {
			t.Errorf("P2: two streams of %d bytes share memory", n)
		}
		if third, _ := lockbox.Stream(7, 1, 0, n); !bytes.Equal(third, second) {
			t.Errorf("P2: a stream of %d bytes hangs on what a caller wrote", n)
		}
	}
}

// overwrite writes into all of a list, spare room too.
func overwrite(b []byte) {
	b = b[:cap(b)]
	for i := range b {
		b[i] ^= 0xff
	}
}
