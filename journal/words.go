package journal

import (
	"slices"

	"furrow/api"
	"furrow/codec"
	"furrow/layout"
	"furrow/pmem"
)

const (
	sumAt     = api.JournalAt + api.WordSize // the address of the word that holds the records' sum
	recordsAt = api.JournalAt + api.LineSize // the address of the first record
	slotUsed  = 3 * api.WordSize             // bytes of a slot's line that are table words
)

// refusal: why the changes can't be committed; OK, if they can.
func refusal(d *pmem.Device, sh api.Shape, changes []api.Change) api.Errno {
	switch {
	case !fits(d, sh):
		return api.ErrShape
	case len(changes) == 0 || len(changes) > api.MaxUndo:
		return api.ErrMany
	case !goodChanges(sh, changes):
		return api.ErrJournal
	case !empty(d):
		return api.ErrUndo
	}
	return api.OK
}

func fits(d *pmem.Device, sh api.Shape) bool {
	right, e := layout.Fit(api.Super{Pages: sh.Pages, Inodes: sh.Inodes, Cores: sh.Cores})
	return e == api.OK && sh == right && d.Size() == sh.Pages*api.PageSize
}

func goodChanges(sh api.Shape, changes []api.Change) bool {
	for i, c := range changes {
		again := slices.ContainsFunc(changes[:i], func(before api.Change) bool { return before.At == c.At })
		if again || !tableWord(sh, c.At) {
			return false
		}
	}
	return true
}

// tableWord: whether the address is that of one of the three words of a slot that the shape has.
func tableWord(sh api.Shape, at int) bool {
	end := api.TableAt + sh.Inodes*api.LineSize
	return api.TableAt <= at && at < end && at%api.LineSize < slotUsed && at%api.WordSize == 0
}

// empty: whether the device's journal has no records, and nothing that can't be read either.
func empty(d *pmem.Device) bool {
	page, _ := d.Read(api.JournalAt, api.PageSize)
	list, e := layout.OpenUndo(page)
	return e == api.OK && len(list) == 0
}

// records: the words of the journal that say what the changed words are now, and behind them the one that holds their sum.
func records(d *pmem.Device, changes []api.Change) []api.Change {
	var plain []uint64
	for _, c := range changes {
		was, _ := d.Word(c.At)
		plain = append(plain, uint64(c.At), was)
	}
	var words []api.Change
	for i, w := range plain {
		words = append(words, api.Change{At: recordsAt + i*api.WordSize, New: w})
	}
	sum := codec.Sum(codec.Bytes(plain...))
	return append(words, api.Change{At: sumAt, New: codec.Seal(sumAt, sum)})
}

// counted: the word that says how many records the journal has.
func counted(n int) api.Change {
	return api.Change{At: api.JournalAt, New: codec.Seal(api.JournalAt, uint32(n))}
}

// restored: the words as the records say that they were.
func restored(list []api.Undo) []api.Change {
	words := make([]api.Change, len(list))
	for i, u := range list {
		words[i] = api.Change{At: u.At, New: u.Old}
	}
	return words
}
