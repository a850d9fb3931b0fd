package lockbox_test

import (
	"bytes"
	"encoding/binary"
	"encoding/hex"
	"math/big"
	"strings"
	"testing"

	"lockbox/api"
)

// The model follows the document's words with whole numbers of any size, so that it shares no slip with the program's own arithmetic.

var twoTo32 = big.NewInt(1 << 32)

func modelStep(x *big.Int, v int) *big.Int {
	y := new(big.Int).Xor(x, big.NewInt(int64(v)))
	y.Mul(y, big.NewInt(668265261)).Mod(y, twoTo32)
	return new(big.Int).Xor(y, new(big.Int).Div(y, big.NewInt(1<<15)))
}

func modelSum(key int, numbers ...int) uint32 {
	x := big.NewInt(int64(key))
	for _, v := range numbers {
		x = modelStep(x, v)
	}
	return uint32(x.Uint64())
}

func modelStream(key, epoch, seq, n int) []byte {
	out := make([]byte, n)
	for i := range out {
		out[i] = byte(modelSum(key, 1, epoch, seq, i) % 256)
	}
	return out
}

// withTag lays the right tag behind head, whatever head is.
func withTag(key int, head []byte) []byte {
	out := bytes.Clone(head)
	for _, first := range []int{2, 3} {
		numbers := []int{first}
		for _, b := range head {
			numbers = append(numbers, int(b))
		}
		out = binary.BigEndian.AppendUint32(out, modelSum(key, numbers...))
	}
	return out
}

func modelSeal(key int, f api.Frame) []byte {
	head := []byte{byte(f.Kind), byte(f.Index)}
	head = binary.BigEndian.AppendUint32(head, uint32(f.Epoch))
	head = binary.BigEndian.AppendUint32(head, uint32(f.Seq))
	for i, b := range modelStream(key, f.Epoch, f.Seq, len(f.Body)) {
		head = append(head, b^f.Body[i])
	}
	return withTag(key, head)
}

func unhex(t *testing.T, s string) []byte {
	t.Helper()
	b, err := hex.DecodeString(strings.ReplaceAll(s, " ", ""))
	if err != nil {
		t.Fatal(err)
	}
	return b
}

func sameFrame(a, b api.Frame) bool {
	return a.Kind == b.Kind && a.Index == b.Index && a.Epoch == b.Epoch && a.Seq == b.Seq && bytes.Equal(a.Body, b.Body)
}

func isNothing(f api.Frame) bool {
	return f.Kind == 0 && f.Index == 0 && f.Epoch == 0 && f.Seq == 0 && f.Body == nil
}

// countingBody: bytes that all differ, so that none can take another's place unseen.
func countingBody() []byte {
	out := make([]byte, api.BlockSize)
	for i := range out {
		out[i] = byte(7*i + 1)
	}
	return out
}
