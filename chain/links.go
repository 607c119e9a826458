package chain

import (
	"math"

	"knell/api"
	"knell/cell"
)

// LinkTo gives what a cell has that tells a thing, or none.
func LinkTo(i int) uint64 { return uint64(i + 1) }

// Linked gives the thing that such a cell tells, or none. What is too great for
// a thing is none; so is 0, as 1 less than that wraps round to the greatest number.
func Linked(v uint64) int {
	i := v - 1
	if i > math.MaxInt {
		return api.None
	}
	return int(i)
}

// Follow gives the things from one on, each of which links the next one. There
// are no more things than cells, so that a ring of links ends, too.
func Follow(cells []uint64, first int, link func(i int) int) []int {
	var l []int
	i := first
	for range cells {
		if i == api.None {
			break
		}
		l = append(l, i)
		i = Linked(At(cells, link(i)))
	}
	return l
}

// At gives what a cell has, and 0 for one that there isn't, as a Load does.
func At(cells []uint64, i int) uint64 {
	if i < 0 || i >= len(cells) {
		return 0
	}
	return cells[i]
}

// AreCells tells whether there are all these cells.
func AreCells(a *cell.Arena, l ...int) bool {
	for _, i := range l {
		if i < 0 || i >= a.Len() {
			return false
		}
	}
	return true
}
