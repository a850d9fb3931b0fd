// Package lockbox: blocks kept on a disk that nobody trusts: see DOC.md.
package lockbox

import (
	"lockbox/api"
	"lockbox/frame"
)

// Stream tells the first n bytes of a keystream (P3).
func Stream(key int, epoch int, seq int, n int) ([]byte, api.Errno) {
	if !frame.IsNumber(key) || !frame.IsNumber(epoch) || !frame.IsNumber(seq) || n < 0 || n > api.MaxStream {
		return nil, api.ErrArg
	}
	return frame.Stream(uint32(key), uint32(epoch), uint32(seq), n), api.OK
}

// Seal makes a frame's bytes (P4).
func Seal(key int, f api.Frame) ([]byte, api.Errno) {
	if !frame.IsNumber(key) || !frame.IsFrame(f) {
		return nil, api.ErrArg
	}
	return frame.Seal(uint32(key), f), api.OK
}

// Open reads a frame's bytes (P5).
func Open(key int, b []byte) (api.Frame, api.Errno) {
	if !frame.IsNumber(key) {
		return api.Frame{}, api.ErrArg
	}
	f, ok := frame.Open(uint32(key), b)
	if !ok {
		return api.Frame{}, api.ErrSeal
	}
	return f, api.OK
}

// Least tells how many zones a disk must have (P6).
func Least(slots int, blocks int) (int, api.Errno) {
	if !isSlots(slots) || !isBlocks(blocks) {
		return 0, api.ErrArg
	}
	return leastOf(slots, blocks), api.OK
}

func isSlots(slots int) bool { return slots >= 1 && slots <= api.MaxSlots }

func isBlocks(blocks int) bool { return blocks >= 1 && blocks <= api.MaxBlocks }

// fits tells whether a store of so many blocks can be on a disk.
func fits(d *api.Disk, blocks int) bool {
	return isSlots(d.Slots()) && d.Zones() >= leastOf(d.Slots(), blocks) && d.Zones() <= api.MaxZones
}

// Store is a store on a disk.
type Store struct {
	tree
	dead error // what the store died of
}

// Format makes a new store on a disk (P7).
func Format(d *api.Disk, key int, blocks int) (*Store, api.Errno) {
	if d == nil || !frame.IsNumber(key) || !isBlocks(blocks) {
		return nil, api.ErrArg
	}
	if !fits(d, blocks) {
		return nil, api.ErrGeometry
	}
	s := &Store{tree: newTree(newLog(d, key), blocks)}
	if _, err := s.takeCount(); err != nil {
		return nil, errno(err)
	}
	if s.count > api.MaxNumber-2 {
		return nil, api.ErrSpent
	}
	if err := s.format(); err != nil {
		return nil, errno(err)
	}
	return s, api.OK
}

// Mount takes up the store that is on a disk (P8).
func Mount(d *api.Disk, key int) (*Store, api.Errno) {
	if d == nil || !frame.IsNumber(key) {
		return nil, api.ErrArg
	}
	l := newLog(d, key)
	bind, err := l.takeCount()
	if err != nil {
		return nil, errno(err)
	}
	if len(bind) == 0 {
		return nil, api.ErrNone
	}
	blocks, root := unbind(bind)
	if !isBlocks(blocks) || !fits(d, blocks) {
		return nil, api.ErrIntegrity
	}
	s := &Store{tree: newTree(l, blocks)}
	if err := s.mount(root); err != nil {
		return nil, errno(err)
	}
	return s, api.OK
}

// Write lays a block down (P9).
func (s *Store) Write(n int, b []byte) api.Errno {
	if e := s.refusal(s.has(n) && len(b) == api.BlockSize); e != api.OK {
		return e
	}
	return s.lives(s.write(n, b))
}

// Read tells a block (P10).
func (s *Store) Read(n int) ([]byte, api.Errno) {
	if s.dead != nil {
		return nil, errno(s.dead)
	}
	if !s.has(n) {
		return nil, api.ErrArg
	}
	b, err := s.read(n)
	return b, s.lives(err)
}

// Trim lets a block go (P11).
func (s *Store) Trim(n int) api.Errno {
	if e := s.refusal(s.has(n)); e != api.OK {
		return e
	}
	s.trim(n)
	return api.OK
}

// Sync makes all that was done last (P12).
func (s *Store) Sync() api.Errno {
	if e := s.refusal(true); e != api.OK {
		return e
	}
	return s.lives(s.sync())
}

// has tells whether there is a block n.
func (s *Store) has(n int) bool { return n >= 0 && n < len(s.blocks) }

// refusal tells why the store cannot be changed; args: whether the arguments may be.
func (s *Store) refusal(args bool) api.Errno {
	switch {
	case s.dead != nil:
		return errno(s.dead)
	case !args:
		return api.ErrArg
	case s.spent():
		return api.ErrSpent
	}
	return api.OK
}

// lives tells how a call ended: with an error the store is dead.
func (s *Store) lives(err error) api.Errno {
	s.dead = err
	return errno(err)
}
