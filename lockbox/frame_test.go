package lockbox_test

import (
	"bytes"
	"math"
	"testing"

	"lockbox/api"
	"lockbox/lockbox"
)

// example: the frame of the document's example, sealed with the key 7.
func example(t *testing.T) (api.Frame, []byte) {
	t.Helper()
	sealed := unhex(t, "01 03 00 00 00 01 00 00 00 00"+
		"36 11 98 4f 9b a4 35 aa 38 ab 21 26 54 0f 92 b1 e4 6f ed 7a e8 6b e6 5d 8d 56 d3 70 c2 bd ff 04 13 f7 75 f2 40 c3 4e 85"+
		"4d 88 30 c2 84 78 22 06")
	return api.Frame{Kind: api.Data, Index: 3, Epoch: 1, Seq: 0, Body: bytes.Repeat([]byte{0x61}, 40)}, sealed
}

// edgeFrames: frames with one field after the other at its edges, and all at once.
func edgeFrames() []api.Frame {
	plain := api.Frame{Kind: api.Leaf, Index: 9, Epoch: 258, Seq: 70000, Body: countingBody()}
	out := []api.Frame{
		plain,
		{Kind: api.Data, Body: make([]byte, api.BlockSize)},
		{Kind: api.Root, Index: 255, Epoch: api.MaxNumber, Seq: api.MaxNumber, Body: bytes.Repeat([]byte{255}, api.BlockSize)},
	}
	for _, kind := range []int{api.Data, api.Leaf, api.Root} {
		f := plain
		f.Kind = kind
		out = append(out, f)
	}
	for _, index := range []int{0, 1, 127, 128, 254, 255} {
		f := plain
		f.Index = index
		out = append(out, f)
	}
	for _, n := range inside {
		f, g := plain, plain
		f.Epoch, g.Seq = n, n
		out = append(out, f, g)
	}
	return out
}

// noFrames: frames with one field outside its bounds.
func noFrames() []api.Frame {
	plain := api.Frame{Kind: api.Leaf, Index: 9, Epoch: 258, Seq: 70000, Body: countingBody()}
	out := []api.Frame{{}}
	for _, kind := range []int{0, 4, -1, 255, 256 + api.Data, math.MinInt, math.MaxInt} {
		f := plain
		f.Kind = kind
		out = append(out, f)
	}
	for _, index := range []int{-1, 256, math.MinInt, math.MaxInt} {
		f := plain
		f.Index = index
		out = append(out, f)
	}
	for _, n := range outside {
		f, g := plain, plain
		f.Epoch, g.Seq = n, n
		out = append(out, f, g)
	}
	for _, body := range [][]byte{nil, {}, countingBody()[:39], make([]byte, 41), make([]byte, api.FrameSize), make([]byte, 1<<16)} {
		f := plain
		f.Body = body
		out = append(out, f)
	}
	return out
}

func TestSealAndOpenExample(t *testing.T) {
	f, sealed := example(t)
	if b, e := lockbox.Seal(7, f); e != api.OK || !bytes.Equal(b, sealed) {
		t.Errorf("P4: Seal(7, %+v) = %x, %d, want %x", f, b, e, sealed)
	}
	if g, e := lockbox.Open(7, sealed); e != api.OK || !sameFrame(g, f) {
		t.Errorf("P5: Open(7, %x) = %+v, %d, want %+v", sealed, g, e, f)
	}
}

func TestSealAndOpenAtTheEdges(t *testing.T) {
	for _, key := range inside {
		for _, f := range edgeFrames() {
			b, e := lockbox.Seal(key, f)
			if e != api.OK || !bytes.Equal(b, modelSeal(key, f)) {
				t.Errorf("P4: Seal(%d, %+v) = %x, %d", key, f, b, e)
			}
			if g, e := lockbox.Open(key, b); e != api.OK || !sameFrame(g, f) {
				t.Errorf("P5: Open(%d, Seal of %+v) = %+v, %d", key, f, g, e)
			}
		}
	}
}

func TestSealOfNoFrame(t *testing.T) {
	for _, f := range noFrames() {
		for _, key := range []int{7, -1} {
			if b, e := lockbox.Seal(key, f); b != nil || e != api.ErrArg {
				t.Errorf("P4: Seal(%d, %+v) = %x, %d, want nil, ErrArg", key, f, b, e)
			}
		}
	}
}

func TestKeysOutside(t *testing.T) {
	f, sealed := example(t)
	for _, key := range outside {
		if b, e := lockbox.Seal(key, f); b != nil || e != api.ErrArg {
			t.Errorf("P4: Seal(%d, ..) = %x, %d, want nil, ErrArg", key, b, e)
		}
		for _, b := range [][]byte{sealed, nil, sealed[:57]} {
			if g, e := lockbox.Open(key, b); !isNothing(g) || e != api.ErrArg {
				t.Errorf("P5: Open(%d, %x) = %+v, %d, want ErrArg", key, b, g, e)
			}
		}
	}
	// A key that is cut to 32 bits would be 7, and would open the example.
	if g, e := lockbox.Open(7+1<<32, sealed); !isNothing(g) || e != api.ErrArg {
		t.Errorf("P5: Open(7 + 2^32, ..) = %+v, %d, want ErrArg", g, e)
	}
}

func wantNoSeal(t *testing.T, key int, b []byte) {
	t.Helper()
	if f, e := lockbox.Open(key, b); !isNothing(f) || e != api.ErrSeal {
		t.Errorf("P5: Open(%d, %x) = %+v, %d, want nothing, ErrSeal", key, b, f, e)
	}
}

func TestOpenWithOneByteTurned(t *testing.T) {
	_, sealed := example(t)
	for i := range sealed {
		for by := 1; by < 256; by++ {
			b := bytes.Clone(sealed)
			b[i] ^= byte(by)
			wantNoSeal(t, 7, b)
		}
	}
}

func TestOpenWithOnlyHalfATag(t *testing.T) {
	for _, other := range [][2]int{{50, 54}, {54, 58}} {
		f, sealed := example(t)
		f.Body = countingBody()
		copy(sealed[:50], modelSeal(7, f)[:50])
		copy(sealed[other[0]:other[1]], modelSeal(7, f)[other[0]:other[1]])
		wantNoSeal(t, 7, sealed)
	}
}

func TestOpenWithAnotherLength(t *testing.T) {
	_, sealed := example(t)
	for n := range 4 * api.FrameSize {
		if n == api.FrameSize {
			continue
		}
		b := make([]byte, n)
		copy(b, sealed)
		wantNoSeal(t, 7, b)
	}
	wantNoSeal(t, 7, nil)
	wantNoSeal(t, 7, make([]byte, api.FrameSize))
	wantNoSeal(t, 7, make([]byte, 1<<20))
	// The tag may be right for the bytes ahead of it, and the length wrong still.
	for _, n := range []int{0, 1, 10, 49, 51, 58, 90} {
		head := make([]byte, n)
		copy(head, sealed[:50])
		wantNoSeal(t, 7, withTag(7, head))
	}
}

func TestOpenWithAnotherKey(t *testing.T) {
	_, sealed := example(t)
	for bit := range 32 {
		wantNoSeal(t, 7^1<<bit, sealed)
	}
	for _, key := range inside {
		wantNoSeal(t, key, sealed)
	}
}

func TestOpenOfRightSumsThatAreNoFrame(t *testing.T) {
	_, sealed := example(t)
	for kind := range 256 {
		head := bytes.Clone(sealed[:50])
		head[0] = byte(kind)
		b := withTag(7, head)
		if kind < api.Data || kind > api.Root {
			wantNoSeal(t, 7, b)
			continue
		}
		if f, e := lockbox.Open(7, b); f.Kind != kind || e != api.OK {
			t.Errorf("P5: kind %d: %+v, %d", kind, f, e)
		}
	}
}

// inTheMiddle lays b into a longer list, so that there is room ahead of it and spare room behind it.
func inTheMiddle(b []byte) (whole []byte, piece []byte) {
	whole = bytes.Repeat([]byte{0xee}, len(b)+200)
	copy(whole[100:], b)
	return whole, whole[100 : 100+len(b)]
}

func TestNothingHandedInIsWrittenInto(t *testing.T) {
	f, sealed := example(t)
	bodyAround, body := inTheMiddle(f.Body)
	before := bytes.Clone(bodyAround)
	f.Body = body
	lockbox.Seal(7, f)
	if !bytes.Equal(bodyAround, before) {
		t.Errorf("P2: Seal wrote into the body, or around it")
	}
	for _, b := range [][]byte{sealed, sealed[:50], sealed[:57], make([]byte, api.FrameSize)} {
		around, piece := inTheMiddle(b)
		before := bytes.Clone(around)
		lockbox.Open(7, piece)
		if !bytes.Equal(around, before) {
			t.Errorf("P2: Open wrote into %d bytes, or around them", len(b))
		}
	}
}

func TestWhatComesOutIsNewMemory(t *testing.T) {
	f, sealed := example(t)
	body, want := bytes.Clone(f.Body), bytes.Clone(sealed)
	b, _ := lockbox.Seal(7, f)
	overwrite(f.Body)
	if !bytes.Equal(b, want) {
		t.Errorf("P2: what Seal answered shares memory with the body")
	}
	c, _ := lockbox.Seal(7, api.Frame{Kind: api.Data, Index: 3, Epoch: 1, Body: body})
	overwrite(b)
	if !bytes.Equal(c, want) {
		t.Errorf("P2: two answers of Seal share memory")
	}
	g, _ := lockbox.Open(7, sealed)
	h, _ := lockbox.Open(7, sealed)
	overwrite(g.Body)
	if !bytes.Equal(sealed, want) || !bytes.Equal(h.Body, body) {
		t.Errorf("P2: a body that Open answered shares memory")
	}
	overwrite(sealed)
	if !bytes.Equal(h.Body, body) {
		t.Errorf("P2: Open keeps the bytes that it was handed")
	}
}
