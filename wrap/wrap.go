// Package wrap is layer 1: see shared/doc/01-wrap.md.
package wrap

import "waymaster/api"

// maxAhead is the greatest distance at which an index is ahead: at any greater one, either index could be taken for the other's past.
const maxAhead = 1<<31 - 1

// exponents is how many sizes there are, since 1<<(exponents-1) is api.MaxRing.
const exponents = 13

// Far is the distance from a to b; the unsigned difference wraps round by itself.
func Far(a uint32, b uint32) uint32 { return b - a }

// Ahead tells whether b is ahead of a.
func Ahead(a uint32, b uint32) bool {
	d := Far(a, b)
	return d >= 1 && d <= maxAhead
}

// Over is how far a is ahead of b, and 0 if it is not.
func Over(a uint32, b uint32) uint32 {
	if !Ahead(b, a) {
		return 0
	}
	return Far(b, a)
}

// IsSize tells whether a number is a size.
func IsSize(n int) bool { return areSizes(n) }

// Slot is the place of an index in a ring.
func Slot(i uint32, size int) (int, api.Errno) {
	if !areSizes(size) {
		return 0, api.ErrArg
	}
	return place(i, size), api.OK
}

// Room is how many places of a ring are free between its consumer and its producer.
func Room(prod uint32, cons uint32, size int) (int, api.Errno) {
	if !areSizes(size) {
		return 0, api.ErrArg
	}
	used := Far(cons, prod)
	if used > uint32(size) {
		return 0, api.ErrWrap
	}
	return size - int(used), api.OK
}

// Range is the places of the indexes from one up to another.
func Range(from uint32, to uint32, size int) ([]int, api.Errno) {
	if !areSizes(size) {
		return nil, api.ErrArg
	}
	if Far(from, to) > uint32(size) {
		return nil, api.ErrWrap
	}
	var slots []int
visit:
	for i, slot := range around(from, size) {
		if i == to {
			break visit
		}
		slots = append(slots, slot)
	}
	return slots, api.OK
}

// areSizes tells whether all of the numbers are sizes.
func areSizes(ns ...int) bool {
	for _, n := range ns {
		if exponent(n) < 0 {
			return false
		}
	}
	return true
}

// exponent is the power of two that a size is, and -1 of what is no size.
func exponent(n int) int {
	for e := range exponents {
		if n == 1<<e {
			return e
		}
	}
	return -1
}

// place is the slot of an index; size must be a size.
func place(i uint32, size int) int { return int(i % uint32(size)) }

// around visits every slot of a ring once, each with its index. It ends after one round, so that a range as long as the ring needs no index to stop at.
func around(from uint32, size int) func(yield func(uint32, int) bool) {
	return func(yield func(uint32, int) bool) {
		for k := range size {
			i := from + uint32(k)
			if !yield(i, place(i, size)) {
				return
			}
		}
	}
}
