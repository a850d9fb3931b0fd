// Package lockbox: blocks kept on a disk that nobody trusts: see DOC.md.
package lockbox

import (
	"lockbox/api"
	"lockbox/frame"
)

// Stream tells the first n bytes of a keystream (P3).
func Stream(key int, epoch int, seq int, n int) ([]byte, api.Errno) {
	if !frame.IsNumber(key) || !frame.IsNumber(epoch) || !frame.IsNumber(seq) || n < 0 || n > api.MaxStream {
		return nil, api.ErrArg
	}
	return frame.Stream(uint32(key), uint32(epoch), uint32(seq), n), api.OK
}

// Seal makes a frame's bytes (P4).
func Seal(key int, f api.Frame) ([]byte, api.Errno) {
	if !frame.IsNumber(key) || !frame.IsFrame(f) {
		return nil, api.ErrArg
	}
	return frame.Seal(uint32(key), f), api.OK
}

// Open reads a frame's bytes (P5).
func Open(key int, b []byte) (api.Frame, api.Errno) {
	if !frame.IsNumber(key) {
		return api.Frame{}, api.ErrArg
	}
	f, ok := frame.Open(uint32(key), b)
	if !ok {
		return api.Frame{}, api.ErrSeal
	}
	return f, api.OK
}

// Least tells how many zones a disk must have (P6).
func Least(slots int, blocks int) (int, api.Errno) { return 0, api.OK }

// Store is a store on a disk.
type Store struct{}

// Format makes a new store on a disk (P7).
func Format(d *api.Disk, key int, blocks int) (*Store, api.Errno) { return nil, api.OK }

// Mount takes up the store that is on a disk (P8).
func Mount(d *api.Disk, key int) (*Store, api.Errno) { return nil, api.OK }

// Write lays a block down (P9).
func (s *Store) Write(n int, b []byte) api.Errno { return api.OK }

// Read tells a block (P10).
func (s *Store) Read(n int) ([]byte, api.Errno) { return nil, api.OK }

// Trim lets a block go (P11).
func (s *Store) Trim(n int) api.Errno { return api.OK }

// Sync makes all that was done last (P12).
func (s *Store) Sync() api.Errno { return api.OK }
