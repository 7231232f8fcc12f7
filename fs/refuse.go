package fs

import (
	"errors"

	"furrow/api"
)

// noPath: the path of an operation that is given none.
const noPath = ""

// named: what a method answers where it ends with err: nil, if nothing was refused (the layers below say OK then); else the reason with the operation and its path, once.
func named(err error, op, path string) error {
	var already *api.PathError
	switch {
	case err == nil, errors.Is(err, api.OK):
		return nil
	case errors.As(err, &already):
		return err
	}
	return &api.PathError{Op: op, Path: path, Err: err}
}
