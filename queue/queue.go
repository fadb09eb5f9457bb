// Package queue: things that wait, of which the first one by a given order goes first.
package queue

// Queue keeps what waits as a heap: none goes ahead of the one at half its place.
type Queue[T any] struct {
	items []T
	ahead func(one T, other T) bool
}

// New makes a Queue in which nothing waits; ahead says whether one goes ahead of the other.
func New[T any](ahead func(one T, other T) bool) *Queue[T] {
	return &Queue[T]{ahead: ahead}
}

// Put lets a thing wait.
func (q *Queue[T]) Put(item T) {
	q.items = append(q.items, item)
	q.rise(len(q.items) - 1)
}

// Take takes out the thing that goes ahead of all others; false, if nothing waits.
func (q *Queue[T]) Take() (T, bool) {
	var none T
	if len(q.items) == 0 {
		return none, false
	}
	first, last := q.items[0], len(q.items)-1
	q.items[0] = q.items[last]
	// What has gone is not to be held by the spare room.
	q.items[last] = none
	q.items = q.items[:last]
	q.sink(0)
	return first, true
}

func (q *Queue[T]) rise(at int) {
	for at > 0 {
		above := (at - 1) / 2
		if !q.ahead(q.items[at], q.items[above]) {
			return
		}
		q.swap(at, above)
		at = above
	}
}

func (q *Queue[T]) sink(at int) {
	for {
		first := at
		for below := 2*at + 1; below <= 2*at+2 && below < len(q.items); below++ {
			if q.ahead(q.items[below], q.items[first]) {
				first = below
			}
		}
		if first == at {
			return
		}
		q.swap(at, first)
		at = first
	}
}

func (q *Queue[T]) swap(one int, other int) {
	q.items[one], q.items[other] = q.items[other], q.items[one]
}
