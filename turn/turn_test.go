package turn_test

import (
	"iter"
	"math"
	"slices"
	"testing"

	"potsherd/api"
	"potsherd/turn"
)

type numbered struct {
	at   int
	spot api.Spot
}

// take leaves seq itself behind n numbers, so that these tests do not lean on First.
func take(seq iter.Seq[int], n int) []int {
	var l []int
	if n < 1 {
		return nil
	}
	for x := range seq {
		l = append(l, x)
		if len(l) == n {
			break
		}
	}
	return l
}

func takeSpots(seq iter.Seq2[int, api.Spot], n int) []numbered {
	var l []numbered
	if n < 1 {
		return nil
	}
	for i, s := range seq {
		l = append(l, numbered{i, s})
		if len(l) == n {
			break
		}
	}
	return l
}

// P1.1, Turn: order, from modulo n (below 0, too), none for n below 1.
func TestTurn(t *testing.T) {
	for _, x := range []struct {
		n, from int
		want    []int
	}{
		{4, 2, []int{2, 3, 0, 1}},
		{4, 0, []int{0, 1, 2, 3}},
		{4, 3, []int{3, 0, 1, 2}},
		{1, 0, []int{0}},
		{2, 1, []int{1, 0}},
		{4, 4, []int{0, 1, 2, 3}},
		{4, 7, []int{3, 0, 1, 2}},
		{4, 4001, []int{1, 2, 3, 0}},
		{1, 99, []int{0}},
		{4, -1, []int{3, 0, 1, 2}},
		{4, -4, []int{0, 1, 2, 3}},
		{4, -5, []int{3, 0, 1, 2}},
		{4, -4003, []int{1, 2, 3, 0}},
		{1, -1, []int{0}},
		{5, math.MaxInt, []int{2, 3, 4, 0, 1}},
		{5, math.MinInt, []int{2, 3, 4, 0, 1}},
		{0, 0, nil},
		{0, 3, nil},
		{-1, 0, nil},
		{-4, -1, nil},
		{math.MinInt, math.MinInt, nil},
	} {
		if got := slices.Collect(turn.Turn(x.n, x.from)); !slices.Equal(got, x.want) {
			t.Errorf("Turn(%d, %d): %v, not %v", x.n, x.from, got, x.want)
		}
	}
}

// R1: near the greatest int nothing goes round.
func TestTurnAtTheEndOfInt(t *testing.T) {
	const most = math.MaxInt
	for _, x := range []struct {
		n, from int
		want    []int
	}{
		{most, most - 2, []int{most - 2, most - 1, 0, 1}},
		{most, most - 1, []int{most - 1, 0, 1, 2}},
		{most, most, []int{0, 1, 2, 3}},
		{most, -1, []int{most - 1, 0, 1, 2}},
		{most, math.MinInt, []int{most - 1, 0, 1, 2}},
		{most - 1, most, []int{1, 2, 3, 4}},
	} {
		if got := take(turn.Turn(x.n, x.from), 4); !slices.Equal(got, x.want) {
			t.Errorf("Turn(%d, %d): %v, not %v", x.n, x.from, got, x.want)
		}
	}
}

// P1.1, Where: the places that are true, rising.
func TestWhere(t *testing.T) {
	for _, x := range []struct {
		is   []bool
		want []int
	}{
		{nil, nil},
		{[]bool{}, nil},
		{[]bool{false}, nil},
		{[]bool{true}, []int{0}},
		{[]bool{false, false, false}, nil},
		{[]bool{true, true, true}, []int{0, 1, 2}},
		{[]bool{true, false, true, true, false}, []int{0, 2, 3}},
		{[]bool{false, false, true}, []int{2}},
	} {
		if got := slices.Collect(turn.Where(x.is)); !slices.Equal(got, x.want) {
			t.Errorf("Where(%v): %v, not %v", x.is, got, x.want)
		}
	}
}

// R2: the list is neither changed nor kept, nor is it read behind its length.
func TestWhereDoesNotKeep(t *testing.T) {
	whole := []bool{true, false, true, true, true}
	is := whole[:3]
	seq := turn.Where(is)
	if got := slices.Collect(seq); !slices.Equal(got, []int{0, 2}) {
		t.Errorf("behind the length: %v", got)
	}
	if !slices.Equal(whole, []bool{true, false, true, true, true}) {
		t.Errorf("changed: %v", whole)
	}
	is[0], is[1] = false, true
	if got := slices.Collect(seq); !slices.Equal(got, []int{0, 2}) {
		t.Errorf("kept: %v", got)
	}
}

// P1.1, Spots: block by block, page by page, each with its number.
func TestSpots(t *testing.T) {
	want := []numbered{
		{0, api.Spot{Block: 0, Page: 0}}, {1, api.Spot{Block: 0, Page: 1}}, {2, api.Spot{Block: 0, Page: 2}},
		{3, api.Spot{Block: 1, Page: 0}}, {4, api.Spot{Block: 1, Page: 1}}, {5, api.Spot{Block: 1, Page: 2}},
	}
	if got := takeSpots(turn.Spots(2, 3), 100); !slices.Equal(got, want) {
		t.Errorf("Spots(2, 3): %v", got)
	}
}

// P1.1, Spots: all there are up to the greatest sizes, none beyond them, none below 1.
func TestSpotsSizes(t *testing.T) {
	const b, p = api.MaxBlocks, api.MaxPages
	for _, x := range []struct{ blocks, pages, want int }{
		{1, 1, 1}, {1, p, p}, {b, 1, b}, {b, p, b * p},
		{0, 1, 0}, {1, 0, 0}, {0, 0, 0}, {-1, 2, 0}, {2, -1, 0}, {-2, -3, 0},
		{b + 1, 1, 0}, {1, p + 1, 0}, {b + 1, p + 1, 0}, {b + 1, 0, 0},
		{math.MaxInt, 1, 0}, {1, math.MaxInt, 0}, {math.MinInt, 1, 0}, {1, math.MinInt, 0},
	} {
		n := 0
		for i, s := range turn.Spots(x.blocks, x.pages) {
			if i != n || i != s.Block*x.pages+s.Page || s.Page < 0 || s.Page >= x.pages {
				t.Fatalf("Spots(%d, %d): %d is %v", x.blocks, x.pages, i, s)
			}
			n++
		}
		if n != x.want {
			t.Errorf("Spots(%d, %d): %d, not %d", x.blocks, x.pages, n, x.want)
		}
	}
}

// P1.1, First: the first n, or all there are; none for n below 1, or of nil.
func TestFirst(t *testing.T) {
	for _, x := range []struct {
		seq  iter.Seq[int]
		n    int
		want []int
	}{
		{turn.Turn(4, 2), 1, []int{2}},
		{turn.Turn(4, 2), 3, []int{2, 3, 0}},
		{turn.Turn(4, 2), 4, []int{2, 3, 0, 1}},
		{turn.Turn(4, 2), 5, []int{2, 3, 0, 1}},
		{turn.Turn(4, 2), math.MaxInt, []int{2, 3, 0, 1}},
		{turn.Turn(math.MaxInt, 7), 2, []int{7, 8}},
		{turn.Where([]bool{true, false, true}), 1, []int{0}},
		{slices.Values([]int{5, 5, -1}), 3, []int{5, 5, -1}},
		{turn.Turn(0, 2), 4, nil},
		{turn.Turn(4, 2), 0, nil},
		{turn.Turn(4, 2), -1, nil},
		{turn.Turn(4, 2), math.MinInt, nil},
		{nil, 3, nil},
		{nil, 0, nil},
		{nil, -3, nil},
	} {
		if got := turn.First(x.seq, x.n); !slices.Equal(got, x.want) {
			t.Errorf("First(.., %d): %v, not %v", x.n, got, x.want)
		}
	}
}

// P1.1, First: it does not ask for a number that it does not tell.
func TestFirstAsksNoMore(t *testing.T) {
	asked := 0
	seq := func(yield func(int) bool) {
		for i := 0; ; i++ {
			asked++
			if !yield(i) {
				return
			}
		}
	}
	for _, x := range []struct{ n, want int }{{3, 3}, {1, 1}, {0, 0}, {-1, 0}} {
		asked = 0
		turn.First(seq, x.n)
		if asked != x.want {
			t.Errorf("First(.., %d) asked for %d", x.n, asked)
		}
	}
}

// R2: what First tells is new memory each time.
func TestFirstIsNew(t *testing.T) {
	seq := turn.Turn(3, 0)
	a := turn.First(seq, 3)
	a[0] = 99
	if b := turn.First(seq, 3); !slices.Equal(b, []int{0, 1, 2}) {
		t.Errorf("the same memory: %v", b)
	}
}

// R3: a sequence that is no good, and nothing to call, bring no panic.
func TestNoPanic(t *testing.T) {
	panics := func(yield func(int) bool) {
		if yield(4) && yield(5) {
			panic("no more")
		}
	}
	deaf := func(yield func(int) bool) {
		for i := 0; ; i++ {
			yield(i)
		}
	}
	if got := turn.First(panics, 9); !slices.Equal(got, []int{4, 5}) {
		t.Errorf("one that panics: %v", got)
	}
	if got := turn.First(panics, 1); !slices.Equal(got, []int{4}) {
		t.Errorf("one that is left ahead of its panic: %v", got)
	}
	if got := turn.First(deaf, 3); !slices.Equal(got, []int{0, 1, 2}) {
		t.Errorf("one that goes on when it is left: %v", got)
	}
	turn.Turn(3, 1)(nil)
	turn.Where([]bool{true})(nil)
	turn.Spots(2, 2)(nil)
}

// P1.2: left behind each number in turn, and gone through again: the same.
func TestLeaveAndAgain(t *testing.T) {
	for name, seq := range map[string]iter.Seq[int]{
		"Turn":       turn.Turn(7, 4),
		"Turn below": turn.Turn(5, -2),
		"Where":      turn.Where([]bool{true, false, true, true, false, true}),
	} {
		whole := slices.Collect(seq)
		for n := range len(whole) + 1 {
			if got := take(seq, n); !slices.Equal(got, whole[:n]) {
				t.Errorf("%s, left behind %d: %v", name, n, got)
			}
			if got := slices.Collect(seq); !slices.Equal(got, whole) {
				t.Errorf("%s, again behind %d: %v", name, n, got)
			}
			if got := turn.First(seq, n); !slices.Equal(got, whole[:n]) {
				t.Errorf("%s, First %d: %v", name, n, got)
			}
		}
	}
	seq := turn.Spots(3, 4)
	whole := takeSpots(seq, 100)
	for n := range len(whole) + 1 {
		if got := takeSpots(seq, n); !slices.Equal(got, whole[:n]) {
			t.Errorf("Spots, left behind %d: %v", n, got)
		}
		if got := takeSpots(seq, 100); !slices.Equal(got, whole) {
			t.Errorf("Spots, again behind %d: %v", n, got)
		}
	}
}

// P1.2: who has left is not called again, so a yield that says no is the last one.
func TestLeftIsLeft(t *testing.T) {
	for leave := 1; leave <= 6; leave++ {
		calls := 0
		no := func(int) bool { calls++; return calls < leave }
		turn.Turn(6, 4)(no)
		if calls != leave {
			t.Errorf("Turn, left at %d: %d calls", leave, calls)
		}
		calls = 0
		turn.Where([]bool{true, true, true, true, true, true})(no)
		if calls != leave {
			t.Errorf("Where, left at %d: %d calls", leave, calls)
		}
		calls = 0
		turn.Spots(2, 3)(func(int, api.Spot) bool { return no(0) })
		if calls != leave {
			t.Errorf("Spots, left at %d: %d calls", leave, calls)
		}
	}
}

// P1.2: one going-through within another of the same sequence disturbs neither.
func TestWithinItself(t *testing.T) {
	for name, seq := range map[string]iter.Seq[int]{
		"Turn":  turn.Turn(4, 2),
		"Where": turn.Where([]bool{true, false, true, true}),
	} {
		whole := slices.Collect(seq)
		var outer []int
		for x := range seq {
			outer = append(outer, x)
			if got := slices.Collect(seq); !slices.Equal(got, whole) {
				t.Errorf("%s, within: %v", name, got)
			}
		}
		if !slices.Equal(outer, whole) {
			t.Errorf("%s, around: %v", name, outer)
		}
	}
	seq := turn.Spots(2, 2)
	n := 0
	for i := range seq {
		if i != n || len(takeSpots(seq, 100)) != 4 {
			t.Errorf("Spots: %d is not %d", i, n)
		}
		n++
	}
}

// P1.3: Turn has each number of 0 to n - 1 once.
func TestTurnHasEachOnce(t *testing.T) {
	for n := range 40 {
		for from := -100; from <= 100; from++ {
			count := make([]int, n)
			for x := range turn.Turn(n, from) {
				if x < 0 || x >= n {
					t.Fatalf("Turn(%d, %d): %d", n, from, x)
				}
				count[x]++
			}
			for x, k := range count {
				if k != 1 {
					t.Errorf("Turn(%d, %d): %d is there %d times", n, from, x, k)
				}
			}
		}
	}
}
