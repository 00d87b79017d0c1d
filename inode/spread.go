package inode

import "lazaret/api"

// The roots of a node are its first blocks, behind them a block that lists blocks, and one that lists such lists.
const (
	first   = 27
	roots   = first + 2
	perList = api.Sector / 2
)

// A spread is where the bytes of a node are: its blocks in order, and those that list them, each ahead of what it lists.
type spread struct{ blocks, lists []int }

// depth is how many lists there are between a root and a block of bytes.
func depth(root int) int {
	return max(0, root-first+1)
}

// blocksFor is how many blocks size bytes need.
func blocksFor(size int) int {
	return (size + api.Sector - 1) / api.Sector
}

// listsFor is how many lists a node of so many blocks needs.
func listsFor(blocks int) int {
	switch {
	case blocks <= first:
		return 0
	case blocks <= first+perList:
		return 1
	}
	return 2 + (blocks-first-1)/perList
}

// spread goes through the blocks of a node: ErrForm, if there is no such one, or one is named behind the last.
func (b *Base) spread(h head) (spread, api.Errno) {
	var s spread
	left := blocksFor(h.size)
	var through func(i, depth int) api.Errno
	through = func(i, depth int) api.Errno {
		switch {
		case left == 0 && i == 0:
			return api.OK
		case left == 0 || i >= b.blocks:
			return api.ErrForm
		case depth == 0:
			s.blocks = append(s.blocks, i)
			left--
			return api.OK
		}
		s.lists = append(s.lists, i)
		list, e := b.readWords(own + i)
		for place := 0; place < len(list) && e == api.OK; place++ {
			e = through(list[place], depth-1)
		}
		return e
	}
	for root, i := range h.roots {
		if e := through(i, depth(root)); e != api.OK {
			return spread{}, e
		}
	}
	return s, api.OK
}

// lay writes the lists of s, and tells its roots.
func (c *change) lay(s spread) ([roots]int, api.Errno) {
	var out [roots]int
	var through func(depth int) (int, api.Errno)
	through = func(depth int) (int, api.Errno) {
		var i int
		switch {
		case len(s.blocks) == 0:
			return 0, api.OK
		case depth == 0:
			i, s.blocks = s.blocks[0], s.blocks[1:]
			return i, api.OK
		}
		i, s.lists = s.lists[0], s.lists[1:]
		var list words
		for place := range list {
			under, e := through(depth - 1)
			if e != api.OK {
				return 0, e
			}
			list[place] = under
		}
		return i, c.write(own+i, list.text())
	}
	for root := range out {
		i, e := through(depth(root))
		if e != api.OK {
			return [roots]int{}, e
		}
		out[root] = i
	}
	return out, api.OK
}

// gather reads k bytes from at on, which are all there.
func (b *Base) gather(blocks []int, at, k int) ([]byte, api.Errno) {
	out := make([]byte, 0, k)
	for len(out) < k {
		text, e := b.s.Read(own + blocks[at/api.Sector])
		if e != api.OK {
			return nil, e
		}
		text = text[at%api.Sector:]
		text = text[:min(len(text), k-len(out))]
		out = append(out, text...)
		at += len(text)
	}
	return out, api.OK
}

// scatter writes p from at on into blocks, which reach so far.
func (c *change) scatter(blocks []int, at int, p []byte) api.Errno {
	for len(p) > 0 {
		i := own + blocks[at/api.Sector]
		text, e := c.b.s.Read(i)
		if e != api.OK {
			return e
		}
		k := copy(text[at%api.Sector:], p)
		if e := c.write(i, text); e != api.OK {
			return e
		}
		at, p = at+k, p[k:]
	}
	return api.OK
}
