package lockbox

import (
	"lockbox/api"
	"lockbox/frame"
)

const (
	refSize = 10                      // bytes of a ref, laid down in a body
	perLeaf = api.BlockSize / refSize // refs of a body
)

// ref tells where a frame lies, and under which numbers it was sealed: as no two frames have the same, none that others lay there can be taken for it. As there is no frame of epoch 0, the ref of nothing but 0 is that of no frame.
type ref struct{ zone, slot, epoch, seq int }

func (r ref) isNone() bool { return r == ref{} }

func appendRef(b []byte, r ref) []byte {
	b = append(b, byte(r.zone), byte(r.slot))
	b = frame.AppendNumber(b, uint32(r.epoch))
	return frame.AppendNumber(b, uint32(r.seq))
}

// bodyOf lays down as many refs as a body has room for, or fewer.
func bodyOf(refs []ref) []byte {
	b := make([]byte, 0, api.BlockSize)
	for _, r := range refs {
		b = appendRef(b, r)
	}
	return b[:api.BlockSize]
}
