package archive

import (
	"errors"

	"furrow/api"
)

// What errors name as their operation, and as its path where it is given none.
const (
	packing   = "pack"
	unpacking = "unpack"
	noPath    = ""
)

// named: a refusal with this operation and path. Of one of the path interface the reason stays; its own operation and path go, as nobody asked for them.
func named(err error, op, path string) error {
	var below *api.PathError
	if errors.As(err, &below) {
		err = below.Err
	}
	return &api.PathError{Op: op, Path: path, Err: err}
}
