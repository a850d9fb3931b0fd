package frame

import (
	"bytes"

	"lockbox/api"
)

// Where the parts of a sealed frame begin.
const (
	kindAt  = 0
	indexAt = 1
	epochAt = 2
	seqAt   = 6
	bodyAt  = 10
	tagAt   = bodyAt + api.BlockSize
)

const maxIndex = 255

// IsNumber tells whether n may be a key, an epoch or a sequence number.
func IsNumber(n int) bool { return n >= 0 && n <= api.MaxNumber }

// IsFrame tells whether f may be sealed.
func IsFrame(f api.Frame) bool {
	return isKind(f.Kind) && f.Index >= 0 && f.Index <= maxIndex &&
		IsNumber(f.Epoch) && IsNumber(f.Seq) && len(f.Body) == api.BlockSize
}

func isKind(kind int) bool { return kind >= api.Data && kind <= api.Root }

// Seal makes the bytes of f, of which IsFrame holds.
func Seal(key uint32, f api.Frame) []byte {
	epoch, seq := uint32(f.Epoch), uint32(f.Seq)
	out := make([]byte, 0, api.FrameSize)
	out = append(out, byte(f.Kind), byte(f.Index))
	out = AppendNumber(out, epoch)
	out = AppendNumber(out, seq)
	out = append(out, mask(key, epoch, seq, f.Body)...)
	return appendTag(out, key)
}

// Open tells of which frame b is the bytes, and whether it is of any.
func Open(key uint32, b []byte) (api.Frame, bool) {
	if len(b) != api.FrameSize || !isKind(int(b[kindAt])) || !tagFits(key, b) {
		return api.Frame{}, false
	}
	epoch, seq := Number(b[epochAt:]), Number(b[seqAt:])
	return api.Frame{
		Kind:  int(b[kindAt]),
		Index: int(b[indexAt]),
		Epoch: int(epoch),
		Seq:   int(seq),
		Body:  mask(key, epoch, seq, b[bodyAt:tagAt]),
	}, true
}

// mask goes both ways: what was masked twice is as it was.
func mask(key uint32, epoch uint32, seq uint32, body []byte) []byte {
	out := Stream(key, epoch, seq, len(body))
	for i, b := range body {
		out[i] ^= b
	}
	return out
}

// tagFits makes the tag anew, of a copy: the caller's bytes are not to be written into.
func tagFits(key uint32, b []byte) bool {
	return bytes.Equal(appendTag(bytes.Clone(b[:tagAt]), key), b)
}

// appendTag lays the tag of head down behind it.
func appendTag(head []byte, key uint32) []byte {
	first, second := sum(key, forTag1), sum(key, forTag2)
	for _, b := range head {
		first = step(first, uint32(b))
		second = step(second, uint32(b))
	}
	return AppendNumber(AppendNumber(head, first), second)
}

// AppendNumber lays n down behind b, in four bytes.
func AppendNumber(b []byte, n uint32) []byte {
	return append(b, byte(n>>24), byte(n>>16), byte(n>>8), byte(n))
}

// Number tells which number the first four bytes of b are.
func Number(b []byte) uint32 {
	return uint32(b[0])<<24 | uint32(b[1])<<16 | uint32(b[2])<<8 | uint32(b[3])
}
