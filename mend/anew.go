package mend

import (
	"furrow/api"
	"furrow/archive"
	"furrow/fs"
	"furrow/pmem"
)

// workers: how many a mount of the new device has. Nobody else is at work there.
const workers = 1

// makeAnew makes a new file system on a device, with these members. What is refused first ends it.
func makeAnew(d *pmem.Device, s api.Super, members []api.Member) error {
	if err := fs.Mkfs(d, s); err != nil {
		return err
	}
	f, err := fs.Mount(d, workers, nil)
	if err != nil {
		return err
	}
	b, e := archive.Make(members)
	if e != api.OK { // what a rescue answers is a good list, so this never comes
		return e
	}
	if _, err := archive.Unpack(f, slash, b); err != nil {
		return err
	}
	return f.Unmount()
}
