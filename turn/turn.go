// Package turn: numbers in turn: see ../../shared/doc/01-turn.md.
package turn

import (
	"iter"
	"slices"

	"potsherd/api"
)

func Turn(n, from int) iter.Seq[int] {
	return func(yield func(int) bool) {
		if n < 1 || yield == nil {
			return
		}
		start := modulo(from, n)
		// Two runs, not one sum modulo n: start + i would go round where n is near the greatest int.
		if run(start, n, yield) {
			run(0, start, yield)
		}
	}
}

func Where(is []bool) iter.Seq[int] {
	// The caller may change its list before this is gone through, or between two times.
	kept := slices.Clone(is)
	return func(yield func(int) bool) {
		if yield == nil {
			return
		}
		for i, ok := range kept {
			if ok && !yield(i) {
				return
			}
		}
	}
}

func Spots(blocks, pages int) iter.Seq2[int, api.Spot] {
	return func(yield func(int, api.Spot) bool) {
		if !within(blocks, api.MaxBlocks) || !within(pages, api.MaxPages) || yield == nil {
			return
		}
		for b := range blocks {
			for p := range pages {
				if !yield(b*pages+p, api.Spot{Block: b, Page: p}) {
					return
				}
			}
		}
	}
}

func First(seq iter.Seq[int], n int) []int {
	if seq == nil || n < 1 {
		return nil
	}
	return gather(seq, n)
}

// gather has a result with a name, so that what came ahead of a panic of seq is told all the same:
// seq is the caller's, it may panic, or go on when it is left, and no call may panic (R3).
func gather(seq iter.Seq[int], n int) (l []int) {
	defer func() { _ = recover() }()
	for x := range seq {
		l = append(l, x)
		if len(l) == n {
			break
		}
	}
	return l
}

// run tells whether it came to its end: who has left one run must not be called by the next one.
func run(from, end int, yield func(int) bool) bool {
	for i := from; i < end; i++ {
		if !yield(i) {
			return false
		}
	}
	return true
}

// modulo differs from % below 0, where % keeps the sign; one n more is enough there, and does not go round.
func modulo(x, n int) int {
	r := x % n
	if r < 0 {
		r += n
	}
	return r
}

func within(n, most int) bool {
	return n >= 1 && n <= most
}
