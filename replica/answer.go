package replica

import (
	"weave/api"
	"weave/digest"
)

// Digest is the bytes that tell another replica what is delivered here.
func (r *Replica) Digest() string { return digest.Encode(r.clock) }

// Answer is the frames that are sent to whom a digest is from.
func (r *Replica) Answer(bytes string) []string {
	known, err := digest.Decode(bytes, len(r.clock))
	if err != nil {
		return nil
	}
	var answer []string
	for b, frame := range r.log.batches() {
		if b.Seq > known[b.Origin] {
			answer = append(answer, frame)
		}
		if len(answer) == api.MaxReply {
			break
		}
	}
	return answer
}
