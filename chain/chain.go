// Package chain is what layers 8 to 10 have in common: things, each of which
// links the next one; and, for layers 8 and 9, a head ahead of them that counts
// its writes.
package chain

import (
	"knell/api"
	"knell/cell"
	"knell/step"
	"knell/word"
)

// Chain is things, numbered from 0 on, in cells that all workers share.
type Chain struct {
	Cells *cell.Arena
	Head  int
	Link  func(i int) int
}

// Read reads the head: it goes on with what that has, and the first thing, or none.
func (c Chain) Read(then func(old uint64, first int) step.Code) step.Code {
	return step.Load(c.Cells, c.Head, func(old uint64) step.Code {
		return then(old, word.HeadOf(old).Index)
	})
}

// Next reads which thing i links, or none. The cell of a thing that was taken
// meanwhile may have anything; what no head can name is none, as nothing comes of
// it: the head was written since.
func (c Chain) Next(i int, then func(next int) step.Code) step.Code {
	return step.Load(c.Cells, c.Link(i), func(link uint64) step.Code {
		next := Linked(link)
		if !canName(next) {
			next = api.None
		}
		return then(next)
	})
}

// Lay puts i ahead of all others, if the head is still what was read.
func (c Chain) Lay(old uint64, i int, then func(ok bool) step.Code) step.Code {
	return step.Store(c.Cells, c.Link(i), LinkTo(word.HeadOf(old).Index), func() step.Code {
		return c.Turn(old, i, then)
	})
}

// Take takes the first thing off, if the head is still what was read. If it was
// written since, what the link told may be long gone: nothing comes of it then.
func (c Chain) Take(old uint64, then func(ok bool) step.Code) step.Code {
	return c.Next(word.HeadOf(old).Index, func(next int) step.Code {
		return c.Turn(old, next, then)
	})
}

// Turn writes the head, if it is still what was read: its count is one more
// then, so that a head which was written since is never taken for the one that
// was read, even if the same thing is first again.
func (c Chain) Turn(old uint64, first int, then func(ok bool) step.Code) step.Code {
	count := uint32(word.HeadOf(old).Count) + 1
	// Both numbers go in: first is none, or comes from Next, or past CanHave.
	w, _ := word.Head{Count: int(count), Index: first}.Word()
	return step.Cas(c.Cells, c.Head, old, w, then)
}

// List gives the things, the first one first, without a step.
func (c Chain) List() []int {
	cells := c.Cells.All()
	return Follow(cells, word.HeadOf(At(cells, c.Head)).Index, c.Link)
}

// CanHave tells whether i may be one of the things: the head can name it, and
// it has a cell. Without a head there are none.
func (c Chain) CanHave(i int) bool {
	return i != api.None && canName(i) && AreCells(c.Cells, c.Head, c.Link(i))
}

// canName tells whether a head can name i, or none.
func canName(i int) bool {
	_, e := word.Head{Index: i}.Word()
	return e == api.OK
}
