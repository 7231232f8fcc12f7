package volume

import (
	"furrow/api"
	"furrow/extents"
	"furrow/gc"
)

// place: a page of a file.
type place struct {
	ino, off int
}

// transaction: edits that were accepted, the pages that their Fills take, and the free pages as it leaves them.
type transaction struct {
	parts []part
	taken map[place]int
	pool  *extents.Pool
}

// transact: till it is committed a transaction works on parts and a pool of its own, so that nothing is kept of one that is refused.
func (c *core) transact(edits []api.Edit) api.Errno {
	parts, ok := c.accept(edits)
	if !ok {
		return api.ErrEdit
	}
	t := &transaction{parts: parts, taken: map[place]int{}, pool: c.pool.Copy()}
	if !t.provide(c.shape) {
		return api.ErrNoSpace
	}
	if e := c.write(t); e != api.OK {
		return e
	}
	if e := c.commit(t.parts); e != api.OK {
		return e
	}
	c.adopt(t)
	return c.collect(t.parts)
}

// adopt: what was committed is the state, and what the edited inodes owned and own no more is free.
func (c *core) adopt(t *transaction) {
	c.pool = t.pool
	c.pool.Give(letGo(c.shape, t.parts))
	for _, p := range t.parts {
		c.nodes[p.edit.Ino] = p.now
	}
}

// collect: the logs of the edited inodes that have grown too long, as far as there are pages for it. (No free inode's is due.)
func (c *core) collect(parts []part) api.Errno {
	for _, p := range parts {
		n := c.nodes[p.edit.Ino]
		if !gc.Due(n) {
			continue
		}
		pages, ok := take(c.pool, homeOf(c.shape, n.Ino), gc.Want(n))
		if !ok {
			continue
		}
		short, e := gc.Collect(c.device, c.shape, n, pages)
		if e != api.OK {
			return e
		}
		c.pool.Give(n.Log)
		c.nodes[n.Ino] = short
	}
	return api.OK
}
