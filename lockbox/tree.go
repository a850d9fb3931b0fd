package lockbox

import (
	"slices"

	"lockbox/api"
)

// tree: which block lies where.
type tree struct {
	log
	blocks []ref   // where each block lies as it is now; one that is no frame is 40 bytes 0
	bound  version // what lasts
}

// version: where all frames of a store lie, as it was at one moment.
type version struct {
	blocks, leaves []ref
	root           ref
}

func newVersion(blocks int) version {
	return version{blocks: make([]ref, blocks), leaves: make([]ref, leavesOf(blocks))}
}

func newTree(l log, blocks int) tree {
	return tree{log: l, blocks: make([]ref, blocks), bound: newVersion(blocks)}
}

// leavesOf tells how many leaves so many blocks have.
func leavesOf(blocks int) int { return (blocks + perLeaf - 1) / perLeaf }

// framesOf tells how many frames so many blocks need at one moment.
func framesOf(blocks int) int { return blocks + leavesOf(blocks) + 1 }

// zonesOf tells how many zones so many frames fill.
func zonesOf(frames int, slots int) int { return (frames + slots - 1) / slots }

// leastOf tells on how many zones a store can go on for ever: there are always enough empty ones to move everything, and one to write on in.
func leastOf(slots int, blocks int) int { return 2*zonesOf(framesOf(blocks), slots) + 1 }

// under tells which of the blocks a leaf is for.
func under(blocks []ref, leaf int) []ref {
	return blocks[perLeaf*leaf : min(perLeaf*(leaf+1), len(blocks))]
}

// newLeaves tells which leaves must be written if the blocks of old come to lie as blocks says. One that has nothing to tell is not written.
func newLeaves(blocks []ref, old version) []int {
	var out []int
	for leaf := range old.leaves {
		is, was := under(blocks, leaf), under(old.blocks, leaf)
		if !slices.Equal(is, was) && slices.ContainsFunc(is, isSome) {
			out = append(out, leaf)
		}
	}
	return out
}

func isSome(r ref) bool { return !r.isNone() }

// grow tells the version in which the blocks of old have come to lie as blocks says, and the frames above them that must be laid down for it, at the refs of at. The root has the number of blocks as its index: none is taken for that of a store of more or fewer.
func grow(blocks []ref, old version, at []ref) (version, []api.Frame) {
	v := version{blocks: slices.Clone(blocks), leaves: slices.Clone(old.leaves)}
	for leaf := range v.leaves {
		if !slices.ContainsFunc(under(blocks, leaf), isSome) {
			v.leaves[leaf] = ref{}
		}
	}
	var frames []api.Frame
	for i, leaf := range newLeaves(blocks, old) {
		v.leaves[leaf] = at[i]
		frames = append(frames, api.Frame{Kind: api.Leaf, Index: leaf, Body: bodyOf(under(blocks, leaf))})
	}
	v.root = at[len(frames)]
	return v, append(frames, api.Frame{Kind: api.Root, Index: len(blocks), Body: bodyOf(v.leaves)})
}

// empty tells the zones in which no frame lies that is bound or was laid down since and is still needed. They are reset ahead of their first frame.
func (t *tree) empty() []int {
	used := make([]bool, t.disk.Zones())
	for _, r := range slices.Concat(t.blocks, t.bound.blocks, t.bound.leaves, []ref{t.bound.root}) {
		if !r.isNone() {
			used[r.zone] = true
		}
	}
	if t.isOpen() {
		used[t.zone] = true
	}
	var out []int
	for zone, is := range used {
		if !is {
			out = append(out, zone)
		}
	}
	return out
}

// toMove tells how many empty zones it takes to move everything.
func (t *tree) toMove() int { return zonesOf(framesOf(len(t.blocks)), t.disk.Slots()) }

// room tells where n more frames go, if zones and numbers enough to move everything are left behind that.
func (t *tree) room(n int) ([]ref, bool) {
	zones, need := t.empty(), t.zonesFor(n)
	if len(zones)-need < t.toMove() || t.seq+n+framesOf(len(t.blocks)) > api.MaxNumber {
		return nil, false
	}
	return t.next(n, zones), true
}

// read tells a block.
func (t *tree) read(n int) ([]byte, error) {
	if t.blocks[n].isNone() {
		return make([]byte, api.BlockSize), nil
	}
	k := look{kind: api.Data, index: n, at: t.blocks[n]}
	t.fetch(&k)
	t.open(&k)
	return k.body, k.err
}

// write makes a block another.
func (t *tree) write(n int, b []byte) error {
	block := api.Frame{Kind: api.Data, Index: n, Body: b}
	at, ok := t.room(1)
	if !ok {
		return t.move(block)
	}
	err := t.lay([]api.Frame{block}, at)
	if t.spoilt(err) {
		return t.move(block)
	}
	if err == nil {
		t.blocks[n] = at[0]
	}
	return err
}

// trim needs the disk for nothing: that the block is gone is told by the next leaf above it.
func (t *tree) trim(n int) { t.blocks[n] = ref{} }

// sync binds the blocks as they are. Even if they are bound so already there is a new root: with the zones that were there ahead of a Sync no store can be taken up.
func (t *tree) sync() error {
	at, ok := t.room(len(newLeaves(t.blocks, t.bound)) + 1)
	if !ok {
		return t.move()
	}
	v, frames := grow(t.blocks, t.bound, at)
	err := t.lay(frames, at)
	if t.spoilt(err) {
		return t.move()
	}
	if err != nil {
		return err
	}
	return t.bind(v)
}

// bind makes a version last, of which all frames are laid down.
func (t *tree) bind(v version) error {
	if err := t.flush(); err != nil {
		return err
	}
	if err := t.advance(bindOf(len(v.blocks), v.root)); err != nil {
		return err
	}
	t.bound = v
	return nil
}

// move writes everything anew into empty zones, and binds it; frames of blocks that are handed in stand instead of those blocks. All other zones are empty then.
func (t *tree) move(instead ...api.Frame) error {
	frames, err := t.gather(instead)
	if err != nil {
		return err
	}
	t.leave()
	at := t.next(framesOf(len(t.blocks)), t.empty())
	blocks := make([]ref, len(t.blocks))
	for i, f := range frames {
		blocks[f.Index] = at[i]
	}
	v, above := grow(blocks, newVersion(len(blocks)), at[len(frames):])
	if err := t.lay(append(frames, above...), at); err != nil {
		return err
	}
	t.blocks = blocks
	return t.bind(v)
}

// gather tells all blocks that are not nothing, those that are handed in among them.
func (t *tree) gather(instead []api.Frame) ([]api.Frame, error) {
	others := slices.Clone(t.blocks)
	for _, f := range instead {
		others[f.Index] = ref{}
	}
	looks := looksFor(api.Data, others)
	if err := t.openAll(looks); err != nil {
		return nil, err
	}
	frames := slices.Clone(instead)
	for _, k := range looks {
		frames = append(frames, api.Frame{Kind: api.Data, Index: k.index, Body: k.body})
	}
	return frames, nil
}

// format makes a new store, all of whose blocks are nothing. What was bound is let go first: with the power gone on the way, nothing is there.
func (t *tree) format() error {
	if err := t.advance(nil); err != nil {
		return err
	}
	for zone := range t.disk.Zones() {
		if err := t.reset(zone); err != nil {
			return err
		}
	}
	return t.move()
}

// mount takes up the version whose root lies there, and binds it again: so a new epoch begins ahead of the next frame. With the anchor at its end no frame will come.
func (t *tree) mount(root ref) error {
	v, err := t.find(root)
	if err != nil {
		return err
	}
	t.blocks, t.bound = slices.Clone(v.blocks), v
	if len(t.empty()) < t.toMove() { // no store lets it come to that
		return &fault{"frames all over the disk", nowhere, nowhere, errWrong}
	}
	if t.spent() {
		return nil
	}
	return t.bind(v)
}

// find walks down from a root. The blocks are opened too, though nobody asks for them yet: one that is not there must be told now.
func (t *tree) find(root ref) (version, error) {
	v := newVersion(len(t.blocks))
	v.root = root
	top := []look{{kind: api.Root, index: len(t.blocks), at: root}}
	if err := t.openAll(top); err != nil {
		return v, err
	}
	fill(v.leaves, top[0].body)
	leaves := looksFor(api.Leaf, v.leaves)
	if err := t.openAll(leaves); err != nil {
		return v, err
	}
	for _, k := range leaves {
		fill(under(v.blocks, k.index), k.body)
	}
	return v, t.openAll(looksFor(api.Data, v.blocks))
}
