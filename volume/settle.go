package volume

import (
	"furrow/api"
	"furrow/journal"
	"furrow/pmem"
	"furrow/saved"
)

// settle: what a mount writes, once the whole device was found good: the journal is rolled back, and the record of an unmount isn't believed any more, since what is free will change.
func settle(d *pmem.Device) api.Errno {
	if _, e := journal.Recover(d); e != api.OK {
		return e
	}
	if w, e := d.Word(api.CleanAt); e != api.OK || w == 0 {
		return e
	}
	return saved.Forget(d)
}
