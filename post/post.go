// Package post has the messages that are under way between replicas.
package post

import (
	"slices"

	"weave/api"
)

// Kind is what a message is. It counts as api does, from 1 on.
type Kind int

const (
	_ Kind = iota
	Frame
	Digest
)

// Post is a list of messages, in the order in which they were sent.
type Post struct {
	room     chan struct{} // each message under way takes one of its places
	messages []message
}

type message struct {
	api.Message
	spoilt bool
}

// New has no messages, and room for as many as may be under way at once.
func New() *Post {
	return &Post{room: make(chan struct{}, api.MaxMessages)}
}

// Send puts a message at the list's end; without room it is lost.
func (p *Post) Send(kind Kind, from, to int, bytes string) {
	p.add(message{Message: api.Message{Kind: int(kind), From: from, To: to, Bytes: bytes}})
}

func (p *Post) add(m message) {
	select {
	case p.room <- struct{}{}:
		p.messages = append(p.messages, m)
	default: // lost
	}
}

// Messages is the list, in new memory.
func (p *Post) Messages() []api.Message {
	var list []api.Message
	for _, m := range p.messages {
		list = append(list, m.Message)
	}
	return list
}

// Take takes a message out of the list.
func (p *Post) Take(i int) (api.Message, api.Errno) {
	if !p.has(i) {
		return api.Message{}, api.ErrMessage
	}
	m := p.messages[i]
	p.messages = slices.Delete(p.messages, i, i+1)
	<-p.room
	return m.Message, api.OK
}

// Twice sends a message once more. What is spoilt stays so: its double could otherwise be spoilt in a second byte.
func (p *Post) Twice(i int) api.Errno {
	if !p.has(i) {
		return api.ErrMessage
	}
	p.add(p.messages[i])
	return api.OK
}

// Spoil turns those bits of a message's byte that mask has, once a message.
func (p *Post) Spoil(i, at, mask int) api.Errno {
	switch {
	case !p.has(i) || p.messages[i].spoilt:
		return api.ErrMessage
	case mask < 1 || mask > 255:
		return api.ErrValue
	case at < 0 || at >= len(p.messages[i].Bytes):
		return api.ErrPlace
	}
	m := &p.messages[i]
	bytes := []byte(m.Bytes)
	bytes[at] ^= byte(mask)
	m.Bytes, m.spoilt = string(bytes), true
	return api.OK
}

func (p *Post) has(i int) bool { return i >= 0 && i < len(p.messages) }
