package saved

import (
	"math"

	"furrow/api"
	"furrow/codec"
	"furrow/layout"
	"furrow/pmem"
)

// write: the record changes only while no clean word is there, and the clean word comes only when all of the record is durable: so a loss of power leaves the whole record, or one that isn't believed.
func write(d *pmem.Device, r api.Saved) api.Errno {
	picture, e := layout.PackSaved(r)
	if e != api.OK {
		return e
	}
	if w, _ := d.Word(api.CleanAt); w != 0 {
		if e := Forget(d); e != api.OK {
			return e
		}
	}
	if e := durable(d, api.SavedAt, picture); e != api.OK {
		return e
	}
	return believe(d, r.Stamp)
}

// believe: the clean word names the record with this stamp; with 0 it names none.
func believe(d *pmem.Device, stamp uint32) api.Errno {
	return durable(d, api.CleanAt, codec.Bytes(codec.Seal(api.CleanAt, stamp)))
}

// durable: the words of these bytes are stored, and nothing that follows is done ahead of their being durable.
func durable(d *pmem.Device, at int, b []byte) api.Errno {
	if e := d.Write(at, b); e != api.OK {
		return e
	}
	if e := d.FlushAll(at, len(b)); e != api.OK {
		return e
	}
	return d.Fence()
}

// nextStamp: another one than that of the record that is there, so that a clean word that names the one doesn't name the other. It is never 0, which would name none.
func nextStamp(d *pmem.Device) uint32 {
	b, _ := d.Read(api.SavedAt, api.SavedSize)
	r, e := layout.OpenSaved(b)
	if e != api.OK || r.Stamp == math.MaxUint32 {
		return 1
	}
	return r.Stamp + 1
}
