package lockbox

import (
	"lockbox/api"
	"lockbox/frame"
)

const (
	refSize  = 10                      // bytes of a ref, laid down in a body
	perLeaf  = api.BlockSize / refSize // refs of a body
	bindSize = 1 + refSize             // bytes that are bound: the number of blocks, the root's ref
)

// ref tells where a frame lies, and under which numbers it was sealed: as no two frames have the same, none that others lay there can be taken for it. As there is no frame of epoch 0, the ref of nothing but 0 is that of no frame.
type ref struct{ zone, slot, epoch, seq int }

func (r ref) isNone() bool { return r == ref{} }

func appendRef(b []byte, r ref) []byte {
	b = append(b, byte(r.zone), byte(r.slot))
	b = frame.AppendNumber(b, uint32(r.epoch))
	return frame.AppendNumber(b, uint32(r.seq))
}

func refOf(b []byte) ref {
	return ref{int(b[0]), int(b[1]), int(frame.Number(b[2:])), int(frame.Number(b[6:]))}
}

// bodyOf lays down as many refs as a body has room for, or fewer.
func bodyOf(refs []ref) []byte {
	b := make([]byte, 0, api.BlockSize)
	for _, r := range refs {
		b = appendRef(b, r)
	}
	return b[:api.BlockSize]
}

// fill tells refs as they were laid down in a body.
func fill(refs []ref, body []byte) {
	for i := range refs {
		refs[i] = refOf(body[refSize*i:])
	}
}

// bindOf tells what is bound if a store has so many blocks, and its root lies there.
func bindOf(blocks int, root ref) []byte {
	return appendRef([]byte{byte(blocks)}, root)
}

// unbind tells the number of blocks, and the root's ref, of what is bound; nothing, if these are no bytes of a store.
func unbind(bind []byte) (int, ref) {
	if len(bind) != bindSize {
		return 0, ref{}
	}
	return int(bind[0]), refOf(bind[1:])
}
