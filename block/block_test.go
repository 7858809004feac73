package block_test

import (
	"math"
	"reflect"
	"slices"
	"testing"

	"potsherd/api"
	"potsherd/block"
	"potsherd/chip"
	"potsherd/wear"
)

// P8.1: Clean, from both sides of Next 0; neither Count nor what stands in the pages has a say.
func TestClean(t *testing.T) {
	full := [][]byte{{1}, {2, 3}}
	for _, x := range []struct {
		name string
		b    api.Block
		want bool
	}{
		{"made of nothing", api.Block{}, true},
		{"of pages of nothing", api.Block{Pages: make([][]byte, 2)}, true},
		{"erased often", api.Block{Count: 90, Pages: make([][]byte, 2)}, true},
		{"with pages that say something", api.Block{Pages: full}, true},
		{"with a count below 0", api.Block{Count: -1}, true},
		{"with the greatest count", api.Block{Count: math.MaxInt}, true},
		{"Next 1", api.Block{Next: 1}, false},
		{"Next 1, pages of nothing", api.Block{Next: 1, Pages: make([][]byte, 2)}, false},
		{"Next 2, all full", api.Block{Next: 2, Pages: full}, false},
		{"Next -1", api.Block{Next: -1}, false},
		{"Next 2^32", api.Block{Next: 1 << 32}, false},
		{"Next -2^32", api.Block{Next: -1 << 32}, false},
		{"the greatest Next", api.Block{Next: math.MaxInt}, false},
		{"the least Next", api.Block{Next: math.MinInt}, false},
		{"bad", api.Block{Bad: true}, false},
		{"bad, with pages", api.Block{Bad: true, Count: 3, Pages: full}, false},
		{"bad, Next 1", api.Block{Bad: true, Next: 1}, false},
		{"bad, Next -1", api.Block{Bad: true, Next: -1}, false},
	} {
		for range 2 {
			if got := block.Clean(x.b); got != x.want {
				t.Errorf("%s: %v", x.name, got)
			}
		}
	}
}

// P8.1: Left, from both sides of 0 and of the greatest int.
func TestLeft(t *testing.T) {
	const least, most = math.MinInt, math.MaxInt
	for _, x := range []struct{ next, pages, want int }{
		{0, 0, 0},
		{0, 1, 1},
		{0, 4, 4},
		{0, api.MaxPages, 32},
		{0, api.MaxPages + 1, 33},
		{1, 4, 3},
		{3, 4, 1},
		{4, 4, 0},
		{5, 4, 0},
		{90, 4, 0},
		{0, -1, 0},
		{-1, 0, 1},
		{-1, -1, 0},
		{-1, -2, 0},
		{-2, -1, 1},
		{-3, 4, 7},
		{1, 1 << 32, 1<<32 - 1},
		{1 << 32, 1<<32 + 2, 2},
		{1 << 32, 2, 0},
		{-1 << 32, 2, 1<<32 + 2},
		{0, most, most},
		{1, most, most - 1},
		{-1, most, most},
		{-1, most - 1, most},
		{-1, most - 2, most - 1},
		{-2, most - 1, most},
		{least, most, most},
		{least, 0, most},
		{least, -1, most},
		{least, -2, most - 1},
		{least, least, 0},
		{least, least + 1, 1},
		{least + 1, 0, most},
		{least + 1, 1, most},
		{least + 1, -1, most - 1},
		{least + 1, least, 0},
		{-1 << 62, 1 << 62, most},
		{-1 << 62, 1<<62 - 1, most},
		{-1 << 62, 1<<62 - 2, most - 1},
		{1, least, 0},
		{0, least, 0},
		{-1, least, 0},
		{most, least, 0},
		{most, 0, 0},
		{most, most - 1, 0},
		{most, most, 0},
		{most - 1, most, 1},
	} {
		for range 2 {
			if got := block.Left(api.Block{Next: x.next}, x.pages); got != x.want {
				t.Errorf("pages %d, Next %d: %d, not %d", x.pages, x.next, got, x.want)
			}
			if got := block.Left(api.Block{Bad: true, Next: x.next}, x.pages); got != 0 {
				t.Errorf("pages %d, Next %d, bad: %d", x.pages, x.next, got)
			}
		}
	}
}

// P8.1: what Left tells hangs neither on Count nor on how many Pages the block has.
func TestLeftOfPages(t *testing.T) {
	for _, pages := range [][][]byte{nil, {}, {nil}, {{1}, nil, nil, nil}, make([][]byte, 90)} {
		if got := block.Left(api.Block{Next: 1, Count: 7, Pages: pages}, 4); got != 3 {
			t.Errorf("%v: %d", pages, got)
		}
	}
}

// sample is what all calls answer of these blocks.
type sample struct {
	name   string
	l      []api.Block
	bad    int
	cleans []int
	counts []int
	good   []bool
}

var samples = []sample{
	{"no list", nil, 0, nil, nil, nil},
	{"an empty list", []api.Block{}, 0, nil, nil, nil},
	{"one of nothing", []api.Block{{}}, 0, []int{0}, []int{0}, []bool{true}},
	{"one that is bad", []api.Block{{Bad: true, Count: 5}}, 1, nil, []int{5}, []bool{false}},
	{"one that is neither", []api.Block{{Next: 1, Count: 5}}, 0, nil, []int{5}, []bool{true}},
	{"all that there are", []api.Block{{Next: 2, Count: 3}, {Bad: true, Next: 1, Count: 4}, {Count: 9}, {Bad: true, Count: 1}, {Count: 0}, {Next: -1, Count: 2}},
		2, []int{2, 4}, []int{3, 4, 9, 1, 0, 2}, []bool{true, false, true, false, true, true}},
	{"all bad", []api.Block{{Bad: true}, {Bad: true, Next: 1}, {Bad: true, Next: -1}}, 3, nil, []int{0, 0, 0}, []bool{false, false, false}},
	{"all clean", []api.Block{{Count: 2}, {Count: 1}, {Count: 2}}, 0, []int{0, 1, 2}, []int{2, 1, 2}, []bool{true, true, true}},
	{"the first and the last", []api.Block{{}, {Next: 1}, {Bad: true}, {}}, 1, []int{0, 3}, []int{0, 0, 0, 0}, []bool{true, true, false, true}},
	{"numbers far off", []api.Block{{Count: math.MaxInt}, {Count: math.MinInt, Next: math.MaxInt}, {Bad: true, Count: -1, Next: math.MinInt}, {Count: -1 << 32, Next: 1 << 32}},
		1, []int{0}, []int{math.MaxInt, math.MinInt, -1, -1 << 32}, []bool{true, true, false, true}},
	{"pages of many kinds", []api.Block{{Pages: [][]byte{{1}, nil}}, {Bad: true, Pages: make([][]byte, 90)}, {Next: 1, Pages: [][]byte{}}},
		1, []int{0}, []int{0, 0, 0}, []bool{true, false, true}},
}

// holds asks each call twice: an answer hangs on what is handed in alone.
func holds(t *testing.T, s sample) {
	t.Helper()
	for range 2 {
		if got := block.Bad(s.l); got != s.bad {
			t.Errorf("%s: bad %d, not %d", s.name, got, s.bad)
		}
		if got := block.Cleans(s.l); !slices.Equal(got, s.cleans) {
			t.Errorf("%s: cleans %v, not %v", s.name, got, s.cleans)
		}
		if got := block.Counts(s.l); !slices.Equal(got, s.counts) {
			t.Errorf("%s: counts %v, not %v", s.name, got, s.counts)
		}
		if got := block.Good(s.l); !slices.Equal(got, s.good) {
			t.Errorf("%s: good %v, not %v", s.name, got, s.good)
		}
	}
}

// P8.1: Bad, Cleans, Counts, Good.
func TestLists(t *testing.T) {
	for _, s := range samples {
		holds(t, s)
	}
}

// P8.1: a list may be longer than a chip has blocks.
func TestLongLists(t *testing.T) {
	for _, n := range []int{api.MaxBlocks - 1, api.MaxBlocks, api.MaxBlocks + 1, 5000} {
		s := sample{name: "many", l: make([]api.Block, n), cleans: make([]int, n), counts: make([]int, n), good: make([]bool, n)}
		for i := range n {
			s.l[i].Count, s.counts[i] = n-i, n-i
			s.cleans[i], s.good[i] = i, true
		}
		holds(t, s)
	}
}

// every block of a few numbers, bad and not.
func every() []api.Block {
	var l []api.Block
	for _, next := range []int{math.MinInt, -1 << 32, -2, -1, 0, 1, 2, 3, 31, 32, 33, 1 << 32, math.MaxInt} {
		for _, count := range []int{math.MinInt, -1, 0, 1, math.MaxInt} {
			for _, pages := range [][][]byte{nil, make([][]byte, 2), {{1}, nil}} {
				l = append(l, api.Block{Next: next, Count: count, Pages: pages}, api.Block{Bad: true, Next: next, Count: count, Pages: pages})
			}
		}
	}
	return l
}

// P8.2: a block is bad, clean, or neither: never both; and the lists tell the same as the block alone.
func TestOneOfThree(t *testing.T) {
	l := every()
	good, cleans := block.Good(l), block.Cleans(l)
	bad, clean, neither := 0, 0, 0
	for i, b := range l {
		is := [2]bool{block.Bad(l[i:i+1]) == 1, block.Clean(b)}
		if is[0] == good[i] || is[1] != slices.Contains(cleans, i) {
			t.Errorf("%+v: the list tells otherwise", b)
		}
		switch is {
		case [2]bool{true, false}:
			bad++
		case [2]bool{false, true}:
			clean++
		case [2]bool{false, false}:
			neither++
		default:
			t.Errorf("%+v: bad and clean", b)
		}
		if is[0] && block.Left(b, 32) != 0 || is[1] && block.Left(b, 32) != 32 {
			t.Errorf("%+v: left %d", b, block.Left(b, 32))
		}
	}
	if bad != block.Bad(l) || clean != len(cleans) || bad+clean+neither != len(l) || bad*clean*neither == 0 {
		t.Error(bad, clean, neither)
	}
}

// R2: what is handed in, and what lies behind its length, stays as it is.
func TestHandedIn(t *testing.T) {
	make2 := func() []api.Block {
		l := []api.Block{{Next: 1, Count: 4, Pages: [][]byte{{1, 2}, nil, {9}, {8}}}, {Bad: true}, {}, {Bad: true, Count: 7}, {Next: 3}}
		l[0].Pages = l[0].Pages[:2]
		return l
	}
	roomy := make2()
	l := roomy[:3]
	block.Clean(l[0])
	block.Left(l[0], 2)
	if block.Bad(l) != 1 || !slices.Equal(block.Cleans(l), []int{2}) || !slices.Equal(block.Counts(l), []int{4, 0, 0}) || !slices.Equal(block.Good(l), []bool{true, false, true}) {
		t.Error("what lies behind the length is read")
	}
	if want := make2(); !reflect.DeepEqual(roomy, want) || !reflect.DeepEqual(roomy[0].Pages[:4], want[0].Pages[:4]) {
		t.Errorf("%+v", roomy)
	}
}

// R2: what is told is the caller's own.
func TestOwn(t *testing.T) {
	l := []api.Block{{Count: 2}, {Bad: true, Count: 3}, {}}
	cleans, counts, good := block.Cleans(l), block.Counts(l), block.Good(l)
	for i := range cleans {
		cleans[i] = -9
	}
	for i := range counts {
		counts[i], good[i] = -9, !good[i]
	}
	clear(append(cleans, 1)[:cap(cleans)])
	clear(append(counts, 1)[:cap(counts)])
	clear(append(good, true)[:cap(good)])
	holds(t, sample{"told again", l, 1, []int{0, 2}, []int{2, 3, 0}, []bool{true, false, true}})
}

// The example: a new block is clean.
func TestExample(t *testing.T) {
	c := chip.New(3, 4, []int{1})
	if !block.Clean(c.Block(0)) || block.Left(c.Block(0), 4) != 4 {
		t.Error("a new block")
	}
	holds(t, sample{"a new chip", c.Blocks(), 1, []int{0, 2}, []int{0, 0, 0}, []bool{true, false, true}})
}

// P8.1: a block as the chip tells it, from new to bad: as many pages can be programmed as Left tells.
func TestOfChip(t *testing.T) {
	const pages = 4
	c := chip.New(2, pages, nil)
	for p := range pages {
		b := c.Block(0)
		if block.Left(b, pages) != pages-p || block.Clean(b) != (p == 0) {
			t.Errorf("ahead of page %d: %d", p, block.Left(b, pages))
		}
		if err := c.Program(api.Spot{Page: p}, []byte{1}); err != api.OK {
			t.Error(p, err)
		}
	}
	holds(t, sample{"a full one", c.Blocks(), 0, []int{1}, []int{0, 0}, []bool{true, true}})
	if block.Left(c.Block(0), pages) != 0 {
		t.Error("a full one")
	}
	c.Erase(0)
	holds(t, sample{"erased", c.Blocks(), 0, []int{0, 1}, []int{1, 0}, []bool{true, true}})
	c.Cut(0, 2)
	c.Erase(1)
	c.Power()
	if b := c.Block(1); block.Clean(b) || block.Left(b, pages) != 0 {
		t.Error("an erase in whose middle the power went")
	}
	c.Fail(0)
	c.Program(api.Spot{}, []byte{1, 2})
	holds(t, sample{"failed", c.Blocks(), 1, nil, []int{1, 1}, []bool{false, true}})
	if block.Left(c.Block(0), pages) != 0 {
		t.Error("a bad one")
	}
}

// P8.1: Counts and Good are what wear looks at.
func TestForWear(t *testing.T) {
	l := []api.Block{{Bad: true, Count: 90}, {Count: 3}, {Count: 8}}
	if got := wear.Apart(block.Counts(l), block.Good(l)); got != 5 {
		t.Error(got)
	}
}

// R3: no call panics, whatever is handed in.
func TestNoPanic(t *testing.T) {
	l := every()
	for _, b := range append(l, api.Block{}) {
		block.Clean(b)
		for _, pages := range []int{math.MinInt, math.MinInt + 1, -1, 0, 1, 32, math.MaxInt - 1, math.MaxInt} {
			if got := block.Left(b, pages); got < 0 {
				t.Errorf("%+v, %d: %d", b, pages, got)
			}
		}
	}
	for i := range l {
		block.Bad(l[i:])
		block.Cleans(l[:i])
		block.Counts(l[i:i])
		block.Good(l[i:])
	}
}
