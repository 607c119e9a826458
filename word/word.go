// Package word is layer 1: see shared/doc/01-word.md.
package word

import "knell/api"

// What a timer's state tells.
const (
	Idle      = 0
	Armed     = 1
	Fired     = 2
	Cancelled = 3
)

// wordBits is how many bits a word has.
const wordBits = 64

// mostParts is how many parts a word has at most.
const mostParts = 4

// How many bits the parts have. Those of each word make wordBits together, so
// that no bit of a word is nobody's, and every word is that of what stands in it.
const (
	genBits     = 32
	timeBits    = 30
	versionBits = 16
	shardBits   = 16
	nodeBits    = 16
	countBits   = 32
	indexBits   = 32

	timerStatusBits = 2

	connVersionBits = 26
	connAttemptBits = 5
	connStatusBits  = 3
)

// numbers are those of a word's parts, the highest part's first; places behind
// the last part are 0.
type numbers [mostParts]int

// State is a timer's: of which generation, when it is due, and what became of it.
type State struct{ Gen, Time, Status int }

// Home tells which shard has a generation's newest ticket.
type Home struct{ Gen, Version, Shard int }

// Key tells whose a ticket is.
type Key struct{ Gen, Version, Node int }

// Head is the first place of a list, and how often it was turned.
type Head struct{ Count, Index int }

// Conn is a connection's word.
type Conn struct{ Version, Attempt, Status, Time int }

// isPart tells whether a word has such a part. The shift is held against what
// the width leaves, as the sum of two great numbers would wrap round.
func isPart(shift, width int) bool {
	return shift >= 0 && width >= 1 && shift <= wordBits-width
}

// greatest gives the greatest number that goes into a part of that width.
func greatest(width int) uint64 {
	return ^uint64(0) >> (wordBits - width)
}

// Get gives a part of a word.
func Get(w uint64, shift, width int) uint64 {
	if !isPart(shift, width) {
		return 0
	}
	return w >> shift & greatest(width)
}

// Put puts a part into a word.
func Put(w uint64, shift, width int, v uint64) (uint64, api.Errno) {
	if !isPart(shift, width) {
		return 0, api.ErrArg
	}
	if v > greatest(width) {
		return 0, api.ErrRange
	}
	return w&^(greatest(width)<<shift) | v<<shift, api.OK
}

// lay makes the word that has these numbers in parts of these widths, the
// highest first. A number below 0 is a great one without its sign, and goes
// into no part that is narrower than a word.
func lay(l numbers, widths ...int) (uint64, api.Errno) {
	w, shift := uint64(0), wordBits
	for i, width := range widths {
		shift -= width
		next, e := Put(w, shift, width, uint64(l[i]))
		if e != api.OK {
			return 0, e
		}
		w = next
	}
	return w, api.OK
}

// cut gives the numbers that stand in a word's parts of these widths, the
// highest first.
func cut(w uint64, widths ...int) numbers {
	var l numbers
	shift := wordBits
	for i, width := range widths {
		shift -= width
		l[i] = int(Get(w, shift, width))
	}
	return l
}

// Word gives a state as a word.
func (s State) Word() (uint64, api.Errno) {
	return lay(numbers{s.Gen, s.Time, s.Status}, genBits, timeBits, timerStatusBits)
}

// Word gives a home as a word.
func (h Home) Word() (uint64, api.Errno) {
	return lay(numbers{h.Gen, h.Version, h.Shard}, genBits, versionBits, shardBits)
}

// Word gives a key as a word.
func (k Key) Word() (uint64, api.Errno) {
	return lay(numbers{k.Gen, k.Version, k.Node}, genBits, versionBits, nodeBits)
}

// Word gives a head as a word. The index is laid with 1 added, so that a cell
// that is 0 has none; the greatest int wraps round to one below 0 by that, which
// doesn't go in either.
func (h Head) Word() (uint64, api.Errno) {
	return lay(numbers{h.Count, h.Index + 1}, countBits, indexBits)
}

// Word gives a connection's word.
func (c Conn) Word() (uint64, api.Errno) {
	return lay(numbers{c.Version, c.Attempt, c.Status, c.Time}, connVersionBits, connAttemptBits, connStatusBits, timeBits)
}

// StateOf gives the state of a word.
func StateOf(w uint64) State {
	l := cut(w, genBits, timeBits, timerStatusBits)
	return State{Gen: l[0], Time: l[1], Status: l[2]}
}

// HomeOf gives the home of a word.
func HomeOf(w uint64) Home {
	l := cut(w, genBits, versionBits, shardBits)
	return Home{Gen: l[0], Version: l[1], Shard: l[2]}
}

// KeyOf gives the key of a word.
func KeyOf(w uint64) Key {
	l := cut(w, genBits, versionBits, nodeBits)
	return Key{Gen: l[0], Version: l[1], Node: l[2]}
}

// HeadOf gives the head of a word.
func HeadOf(w uint64) Head {
	l := cut(w, countBits, indexBits)
	return Head{Count: l[0], Index: l[1] - 1}
}

// ConnOf gives the connection of a word.
func ConnOf(w uint64) Conn {
	l := cut(w, connVersionBits, connAttemptBits, connStatusBits, timeBits)
	return Conn{Version: l[0], Attempt: l[1], Status: l[2], Time: l[3]}
}
