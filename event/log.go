package event

import (
	"slices"

	"knell/api"
)

// Log is events, one behind the other.
type Log struct{ events []Event }

// Add puts an event behind all others.
func (l *Log) Add(e Event) api.Errno {
	if !Right(e) {
		return api.ErrForm
	}
	l.events = append(l.events, e)
	return api.OK
}

// Len tells how many there are.
func (l *Log) Len() int { return len(l.events) }

// List gives all from one on.
func (l *Log) List(from int) []Event {
	first := min(max(from, 0), len(l.events))
	return slices.Clone(l.events[first:])
}

// where gives those events of a list of which something holds.
func where(l []Event, holds func(e Event) bool) []Event {
	var some []Event
	for _, e := range l {
		if holds(e) {
			some = append(some, e)
		}
	}
	return some
}

// Of gives those of a worker. A tick has the worker 0, but isn't that one's.
func (l *Log) Of(worker int) []Event {
	return where(l.events, func(e Event) bool {
		return e.Kind != Tick && e.Worker == worker
	})
}
