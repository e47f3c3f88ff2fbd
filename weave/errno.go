package weave

import (
	"errors"

	"weave/api"
	"weave/frames"
)

// errnoOf asks for ErrFrame first: under it may lie that the bytes' content is no batch.
func errnoOf(err error) api.Errno {
	switch {
	case err == nil:
		return api.OK
	case errors.Is(err, frames.ErrFrame):
		return api.ErrFrame
	}
	return api.ErrBatch
}
