package inode

import (
	"bytes"

	"lazaret/alloc"
	"lazaret/api"
)

// A change is what one call does. It keeps what the sectors had that it writes, since it may find the store's transaction full when it has done a part.
type change struct {
	b      *Base
	before map[int][]byte
}

// change does what a call has to do, all of it or nothing.
func (b *Base) change(do func(c *change) api.Errno) api.Errno {
	c := &change{b: b, before: map[int][]byte{}}
	// The bits are not written by the change itself, so they are kept ahead of all.
	for i := range bitsAt + alloc.Sectors(b.blocks) {
		text, e := b.s.Read(i)
		if e != api.OK {
			return e
		}
		c.before[i] = text
	}
	e := do(c)
	if e != api.OK {
		c.takeBack()
	}
	return e
}

// takeBack makes all sectors what they were ahead of the change. No part of the store's transaction can be taken back: so all of it is, and what stood in it is written anew. What was written in vain is then none of its sectors any more.
func (c *change) takeBack() {
	s := c.b.s
	if !c.wrote() {
		return
	}
	all := make([][]byte, s.Size())
	for i := range all {
		text, e := s.Read(i)
		if e != api.OK {
			return
		}
		all[i] = text
	}
	for i, text := range c.before {
		all[i] = text
	}
	s.Abort()
	for i, text := range all {
		if e := c.write(i, text); e != api.OK {
			return
		}
	}
}

// wrote is whether a sector has not what it had. Of a store whose device died nothing can be told, nor taken back.
func (c *change) wrote() bool {
	for i, text := range c.before {
		now, e := c.b.s.Read(i)
		if e != api.OK {
			return false
		}
		if !bytes.Equal(now, text) {
			return true
		}
	}
	return false
}

// write makes text what sector i has. One that has it already need not be one of the transaction's sectors.
func (c *change) write(i int, text []byte) api.Errno {
	now, e := c.b.s.Read(i)
	if e != api.OK || bytes.Equal(now, text) {
		return e
	}
	if _, ok := c.before[i]; !ok {
		c.before[i] = now
	}
	return c.b.s.Write(i, text)
}

func (c *change) writeHead(n int, h head) api.Errno {
	return c.write(headAt(n), h.words().text())
}

func (c *change) writeLabel(n int, text []byte) api.Errno {
	for i := range perLabel {
		if e := c.write(headAt(n)+1+i, text[i*api.Sector:(i+1)*api.Sector]); e != api.OK {
			return e
		}
	}
	return api.OK
}

// resize gives node n, whose head is h, the blocks that size bytes need, and tells where they are: ErrFull, if there are not so many.
func (c *change) resize(n int, h head, size int) (spread, api.Errno) {
	s, e := c.b.spread(h)
	if e != api.OK {
		return spread{}, e
	}
	blocks := blocksFor(size)
	lists := listsFor(blocks)
	if blocks != len(s.blocks) {
		free, e := c.b.free()
		if e != api.OK {
			return spread{}, e
		}
		if blocks-len(s.blocks)+lists-len(s.lists) > free {
			return spread{}, api.ErrFull
		}
		if s.blocks, e = c.fit(s.blocks, blocks); e != api.OK {
			return spread{}, e
		}
		if s.lists, e = c.fit(s.lists, lists); e != api.OK {
			return spread{}, e
		}
		if h.roots, e = c.lay(s); e != api.OK {
			return spread{}, e
		}
	}
	h.size = size
	return s, c.writeHead(n, h)
}

// fit takes blocks or gives some back, so that l has as many as are wanted.
func (c *change) fit(l []int, wanted int) ([]int, api.Errno) {
	for len(l) < wanted {
		i, e := c.b.bits.Take()
		if e != api.OK {
			return nil, e
		}
		l = append(l, i)
	}
	for _, i := range l[wanted:] {
		if e := c.giveBlock(i); e != api.OK {
			return nil, e
		}
	}
	return l[:wanted], api.OK
}

// giveBlock makes block i free. That a node has one that is free already is a fault of the store's bytes, not of who calls.
func (c *change) giveBlock(i int) api.Errno {
	e := c.b.bits.Give(i)
	if e == api.ErrArg {
		return api.ErrForm
	}
	return e
}
