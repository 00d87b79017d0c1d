package inode

import (
	"lazaret/api"
	"lazaret/label"
)

// A label has its own sectors behind the head, since it stays as it is while the head changes.
const (
	maxLabel = 2 * (1 + 4*api.MaxTags)
	perLabel = (maxLabel + api.Sector - 1) / api.Sector
)

// words is a sector as numbers of two bytes.
type words [api.Sector / 2]int

// A head has what may change of a node, and by its roots where its bytes are.
type head struct {
	kind, room, size int
	roots            [roots]int
}

// may is whether Make and Write could have come to h.
func (h head) may() bool {
	isKind := h.kind == api.KFile || h.kind == api.KFolder
	hasRoom := h.room >= 0 && h.room <= api.MaxRoom
	return isKind && hasRoom && h.size <= h.room*api.Sector
}

func (h head) words() words {
	w := words{h.kind, h.room, h.size}
	copy(w[len(w)-roots:], h.roots[:])
	return w
}

func headOf(w words) head {
	h := head{kind: w[0], room: w[1], size: w[2]}
	copy(h.roots[:], w[len(w)-roots:])
	return h
}

// headAt is the sector of the head of node n.
func headAt(n int) int {
	return nodesAt + (n-1)*perNode
}

// head is that of node n: ErrNone, if there is no such node.
func (b *Base) head(n int) (head, api.Errno) {
	if n < 1 || n > api.MaxNodes {
		return head{}, api.ErrNone
	}
	taken, e := b.numbers.Taken(n - 1)
	if e != api.OK {
		return head{}, e
	}
	if !taken {
		return head{}, api.ErrNone
	}
	w, e := b.readWords(headAt(n))
	if e != api.OK {
		return head{}, e
	}
	h := headOf(w)
	if !h.may() {
		return head{}, api.ErrForm
	}
	return h, api.OK
}

// label is that of node n, which is there.
func (b *Base) label(n int) (api.Label, api.Errno) {
	var text []byte
	for i := range perLabel {
		part, e := b.s.Read(headAt(n) + 1 + i)
		if e != api.OK {
			return api.Label{}, e
		}
		text = append(text, part...)
	}
	l, used, e := label.Decode(text)
	if e != api.OK || !noughts(text[used:]) {
		return api.Label{}, api.ErrForm
	}
	return l, api.OK
}

// labelText is what the sectors of a label have: ErrArg, if l may not be.
func labelText(l api.Label) ([]byte, api.Errno) {
	code, e := label.Encode(l)
	if e != api.OK {
		return nil, e
	}
	text := make([]byte, perLabel*api.Sector)
	copy(text, code)
	return text, api.OK
}

// readWords is sector i of the store.
func (b *Base) readWords(i int) (words, api.Errno) {
	text, e := b.s.Read(i)
	if e != api.OK {
		return words{}, e
	}
	var w words
	for place := range w {
		w[place] = int(text[2*place]) | int(text[2*place+1])<<8
	}
	return w, api.OK
}

func (w words) text() []byte {
	text := make([]byte, api.Sector)
	for place, number := range w {
		text[2*place], text[2*place+1] = byte(number), byte(number>>8)
	}
	return text
}

func noughts(text []byte) bool {
	for _, c := range text {
		if c != 0 {
			return false
		}
	}
	return true
}
