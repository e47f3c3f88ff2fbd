// Package weave: a store that several replicas keep: see DOC.md.
package weave

import (
	"weave/api"
	"weave/frames"
	"weave/post"
	"weave/replica"
)

// Store is replicas, and what is under way between them.
type Store struct {
	replicas []*replica.Replica
	post     *post.Post
}

// replica is the one of that number, if it is there.
func (s *Store) replica(r int) (*replica.Replica, api.Errno) {
	switch {
	case s == nil:
		return nil, api.ErrNil
	case !s.has(r):
		return nil, api.ErrReplica
	}
	return s.replicas[r], api.OK
}

// up is the replica of that number, if it is there and up.
func (s *Store) up(r int) (*replica.Replica, api.Errno) {
	at, errno := s.replica(r)
	if errno == api.OK && at.IsDown() {
		return nil, api.ErrDown
	}
	return at, errno
}

func (s *Store) has(r int) bool { return r >= 0 && r < len(s.replicas) }

// Encode writes a batch as a frame (P3).
func Encode(b api.Batch) (string, api.Errno) {
	s, err := frames.Encode(b)
	return s, errnoOf(err)
}

// Decode reads a frame (P4).
func Decode(s string) (api.Batch, api.Errno) {
	b, err := frames.Decode(s)
	return b, errnoOf(err)
}

// New makes a store (P5).
func New(n int) (*Store, api.Errno) {
	if n < api.MinReplicas || n > api.MaxReplicas {
		return nil, api.ErrSize
	}
	s := &Store{post: post.New()}
	for r := range n {
		s.replicas = append(s.replicas, replica.New(r, n))
	}
	return s, api.OK
}

// Begin opens a transaction (P6).
func (s *Store) Begin(r int) api.Errno {
	at, errno := s.up(r)
	if errno != api.OK {
		return errno
	}
	return at.Begin()
}

// Do does an operation in a transaction (P7).
func (s *Store) Do(r int, op int, object int, a int, b int) api.Errno {
	at, errno := s.up(r)
	if errno != api.OK {
		return errno
	}
	return at.Do(op, object, a, b)
}

// Read tells what an object comes to (P8).
func (s *Store) Read(r int, object int) ([]int, api.Errno) {
	at, errno := s.up(r)
	if errno != api.OK {
		return nil, errno
	}
	return at.Read(object)
}

// Abort ends a transaction without effects (P6).
func (s *Store) Abort(r int) api.Errno {
	at, errno := s.up(r)
	if errno != api.OK {
		return errno
	}
	return at.Abort()
}

// Commit ends a transaction with its effects (P9).
func (s *Store) Commit(r int) (int, api.Errno) {
	at, errno := s.up(r)
	if errno != api.OK {
		return 0, errno
	}
	seq, frame, errno := at.Commit()
	if seq > 0 {
		s.spread(r, frame)
	}
	return seq, errno
}

// Clock tells how many batches of each replica are delivered (P10).
func (s *Store) Clock(r int) ([]int, api.Errno) {
	at, errno := s.replica(r)
	if errno != api.OK {
		return nil, errno
	}
	return at.Clock(), api.OK
}

// Held tells how many batches are held back (P10).
func (s *Store) Held(r int) (int, api.Errno) {
	at, errno := s.replica(r)
	if errno != api.OK {
		return 0, errno
	}
	return at.Held(), api.OK
}

// Log tells a replica's log (P10).
func (s *Store) Log(r int) (string, api.Errno) {
	at, errno := s.replica(r)
	if errno != api.OK {
		return "", errno
	}
	return at.Log(), api.OK
}

// Messages tells what is under way (P11).
func (s *Store) Messages() ([]api.Message, api.Errno) {
	if s == nil {
		return nil, api.ErrNil
	}
	return s.post.Messages(), api.OK
}

// Deliver lets a message arrive (P11).
func (s *Store) Deliver(i int) api.Errno {
	if s == nil {
		return api.ErrNil
	}
	m, errno := s.post.Take(i)
	if errno != api.OK {
		return errno
	}
	s.takeIn(m)
	return api.OK
}

// Drop loses a message (P11).
func (s *Store) Drop(i int) api.Errno {
	if s == nil {
		return api.ErrNil
	}
	_, errno := s.post.Take(i)
	return errno
}

// Twice doubles a message (P11).
func (s *Store) Twice(i int) api.Errno {
	if s == nil {
		return api.ErrNil
	}
	return s.post.Twice(i)
}

// Spoil changes a byte of a message (P11).
func (s *Store) Spoil(i int, at int, mask int) api.Errno {
	if s == nil {
		return api.ErrNil
	}
	return s.post.Spoil(i, at, mask)
}

// Ask lets a replica send a digest (P13).
func (s *Store) Ask(r int, to int) api.Errno {
	at, errno := s.up(r)
	switch {
	case errno != api.OK:
		return errno
	case !s.has(to) || to == r:
		return api.ErrReplica
	}
	s.post.Send(post.Digest, r, to, at.Digest())
	return api.OK
}

// Sync makes a replica's log outlast a crash (P14).
func (s *Store) Sync(r int) api.Errno {
	at, errno := s.up(r)
	if errno != api.OK {
		return errno
	}
	at.Sync()
	return api.OK
}

// Crash takes a replica down (P14).
func (s *Store) Crash(r int, keep int) api.Errno {
	at, errno := s.up(r)
	if errno != api.OK {
		return errno
	}
	at.Crash(keep)
	return api.OK
}

// Fail lets a replica crash in the middle of a commit (P14).
func (s *Store) Fail(r int, keep int) api.Errno {
	at, errno := s.up(r)
	if errno != api.OK {
		return errno
	}
	return at.Fail(keep)
}

// Restart brings a replica up (P15).
func (s *Store) Restart(r int) api.Errno {
	at, errno := s.replica(r)
	if errno != api.OK {
		return errno
	}
	return at.Restart()
}
