package weave

import (
	"weave/api"
	"weave/post"
)

// spread sends a frame to each other replica.
func (s *Store) spread(from int, frame string) {
	for to := range s.replicas {
		if to != from {
			s.post.Send(post.Frame, from, to, frame)
		}
	}
}

// takeIn lets a message happen at its receiver; at one that is down nothing does.
func (s *Store) takeIn(m api.Message) {
	at, errno := s.up(m.To)
	if errno != api.OK {
		return
	}
	switch post.Kind(m.Kind) {
	case post.Frame:
		at.TakeFrame(m.Bytes)
	case post.Digest:
		for _, frame := range at.Answer(m.Bytes) {
			s.post.Send(post.Frame, m.To, m.From, frame)
		}
	}
}
