// Package frame: the bytes of a frame: sums by a key, streams, tags.
package frame

// A sum begins with what it is made for, so that a stream and the two halves of a tag are never the same sums.
const (
	forStream = 1
	forTag1   = 2
	forTag2   = 3
)

const factor = 668265261

// step stirs v into x. It can be undone (the factor is odd), so that a single byte that is turned, or another key, always shows in a sum.
func step(x uint32, v uint32) uint32 {
	y := (x ^ v) * factor
	return y ^ y>>15
}

// sum is the sum by a key of some numbers.
func sum(key uint32, numbers ...uint32) uint32 {
	x := key
	for _, v := range numbers {
		x = step(x, v)
	}
	return x
}

// Stream tells the first n bytes of a stream.
func Stream(key uint32, epoch uint32, seq uint32, n int) []byte {
	start := sum(key, forStream, epoch, seq)
	out := make([]byte, n)
	for i := range out {
		out[i] = byte(step(start, uint32(i)))
	}
	return out
}
