// Package weave: a store that several replicas keep: see DOC.md.
package weave

import (
	"weave/api"
	"weave/frames"
)

// Store is replicas, and what is under way between them.
type Store struct{}

// Encode writes a batch as a frame (P3).
func Encode(b api.Batch) (string, api.Errno) {
	s, err := frames.Encode(b)
	return s, errnoOf(err)
}

// Decode reads a frame (P4).
func Decode(s string) (api.Batch, api.Errno) {
	b, err := frames.Decode(s)
	return b, errnoOf(err)
}

// New makes a store (P5).
func New(n int) (*Store, api.Errno) { return nil, api.OK }

// Begin opens a transaction (P6).
func (s *Store) Begin(r int) api.Errno { return api.OK }

// Do does an operation in a transaction (P7).
func (s *Store) Do(r int, op int, object int, a int, b int) api.Errno { return api.OK }

// Read tells what an object comes to (P8).
func (s *Store) Read(r int, object int) ([]int, api.Errno) { return nil, api.OK }

// Abort ends a transaction without effects (P6).
func (s *Store) Abort(r int) api.Errno { return api.OK }

// Commit ends a transaction with its effects (P9).
func (s *Store) Commit(r int) (int, api.Errno) { return 0, api.OK }

// Clock tells how many batches of each replica are delivered (P10).
func (s *Store) Clock(r int) ([]int, api.Errno) { return nil, api.OK }

// Held tells how many batches are held back (P10).
func (s *Store) Held(r int) (int, api.Errno) { return 0, api.OK }

// Log tells a replica's log (P10).
func (s *Store) Log(r int) (string, api.Errno) { return "", api.OK }

// Messages tells what is under way (P11).
func (s *Store) Messages() ([]api.Message, api.Errno) { return nil, api.OK }

// Deliver lets a message arrive (P11).
func (s *Store) Deliver(i int) api.Errno { return api.OK }

// Drop loses a message (P11).
func (s *Store) Drop(i int) api.Errno { return api.OK }

// Twice doubles a message (P11).
func (s *Store) Twice(i int) api.Errno { return api.OK }

// Spoil changes a byte of a message (P11).
func (s *Store) Spoil(i int, at int, mask int) api.Errno { return api.OK }

// Ask lets a replica send a digest (P13).
func (s *Store) Ask(r int, to int) api.Errno { return api.OK }

// Sync makes a replica's log outlast a crash (P14).
func (s *Store) Sync(r int) api.Errno { return api.OK }

// Crash takes a replica down (P14).
func (s *Store) Crash(r int, keep int) api.Errno { return api.OK }

// Fail lets a replica crash in the middle of a commit (P14).
func (s *Store) Fail(r int, keep int) api.Errno { return api.OK }

// Restart brings a replica up (P15).
func (s *Store) Restart(r int) api.Errno { return api.OK }
