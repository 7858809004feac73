package chip_test

import (
	"bytes"
	"fmt"
	"math"
	"slices"
	"testing"

	"potsherd/api"
	"potsherd/chip"
)

// step is one call on a chip, and what it should tell.
type step struct {
	do   string // read, program, erase, fail, worn, cut, power
	a, b int    // read, program: block and page; erase: block; fail, worn: n; cut: n and keep
	text string // program: what; read: what it should tell
	err  api.Errno
}

func (s step) String() string {
	return fmt.Sprintf("%s(%d, %d, %q)", s.do, s.a, s.b, s.text)
}

// run does steps one by one, and sees to it that each tells what it should.
func run(t *testing.T, name string, c *chip.Chip, l []step) {
	t.Helper()
	for i, s := range l {
		spot := api.Spot{Block: s.a, Page: s.b}
		var err api.Errno
		switch s.do {
		case "read":
			var got []byte
			got, err = c.Read(spot)
			if string(got) != s.text {
				t.Errorf("%s: %d: %v: %q", name, i, s, got)
			}
		case "program":
			err = c.Program(spot, []byte(s.text))
		case "erase":
			err = c.Erase(s.a)
		case "fail":
			c.Fail(s.a)
		case "worn":
			c.Worn(s.a)
		case "cut":
			c.Cut(s.a, s.b)
		case "power":
			c.Power()
		default:
			t.Fatalf("%s: %d: no step %q", name, i, s.do)
		}
		if err != s.err {
			t.Errorf("%s: %d: %v: error %d, not %d", name, i, s, err, s.err)
		}
		// What came to the power was answered by it.
		if asks := s.do == "read" || s.do == "program" || s.do == "erase"; asks && err != api.ErrArg && c.Down() != (err == api.ErrDown) {
			t.Errorf("%s: %d: %v: Down %v", name, i, s, c.Down())
		}
		if s.do == "power" && c.Down() {
			t.Errorf("%s: %d: %v: no power", name, i, s)
		}
	}
}

// block is a block as it should be: its pages as texts.
func block(bad bool, next, count int, pages ...string) api.Block {
	b := api.Block{Bad: bad, Next: next, Count: count, Pages: make([][]byte, len(pages))}
	for i, p := range pages {
		b.Pages[i] = []byte(p)
	}
	return b
}

func same(a, b api.Block) bool {
	return a.Bad == b.Bad && a.Next == b.Next && a.Count == b.Count && slices.EqualFunc(a.Pages, b.Pages, bytes.Equal)
}

// is holds a chip's blocks against what they should be, by Blocks and by Block.
func is(t *testing.T, name string, c *chip.Chip, want ...api.Block) {
	t.Helper()
	got := c.Blocks()
	if !slices.EqualFunc(got, want, same) {
		t.Errorf("%s: Blocks %v, not %v", name, got, want)
	}
	for i, w := range want {
		if got := c.Block(i); !same(got, w) {
			t.Errorf("%s: Block(%d) %v, not %v", name, i, got, w)
		}
	}
}

func bill(t *testing.T, name string, c *chip.Chip, reads, programs, erases int) {
	t.Helper()
	if got, want := c.Bill(), (api.Bill{Reads: reads, Programs: programs, Erases: erases}); got != want {
		t.Errorf("%s: Bill %v, not %v", name, got, want)
	}
}

// full is a chip of two blocks of three pages, whose block 0 has "ab", "cde", "f".
func full(t *testing.T) *chip.Chip {
	t.Helper()
	c := chip.New(2, 3, nil)
	run(t, "full", c, []step{
		{do: "program", a: 0, b: 0, text: "ab"},
		{do: "program", a: 0, b: 1, text: "cde"},
		{do: "program", a: 0, b: 2, text: "f"},
	})
	return c
}

// P4.1, New: its bounds.
func TestNewBounds(t *testing.T) {
	for _, x := range []struct {
		blocks, pages int
		ok            bool
	}{
		{1, 1, true},
		{1, api.MaxPages, true},
		{api.MaxBlocks, 1, true},
		{api.MaxBlocks, api.MaxPages, true},
		{6, 8, true},
		{0, 8, false},
		{-1, 8, false},
		{math.MinInt, 8, false},
		{api.MaxBlocks + 1, 8, false},
		{math.MaxInt, 8, false},
		{6, 0, false},
		{6, -1, false},
		{6, math.MinInt, false},
		{6, api.MaxPages + 1, false},
		{6, math.MaxInt, false},
		{0, 0, false},
		{api.MaxBlocks + 1, api.MaxPages + 1, false},
	} {
		c := chip.New(x.blocks, x.pages, []int{0})
		if (c != nil) != x.ok {
			t.Errorf("New(%d, %d): %v", x.blocks, x.pages, c != nil)
		}
		if c == nil {
			continue
		}
		l := c.Blocks()
		if len(l) != x.blocks {
			t.Errorf("New(%d, %d): %d blocks", x.blocks, x.pages, len(l))
		}
		for i, b := range l {
			if !same(b, block(i == 0, 0, 0, make([]string, x.pages)...)) {
				t.Errorf("New(%d, %d): block %d: %v", x.blocks, x.pages, i, b)
			}
		}
		if c.Down() {
			t.Errorf("New(%d, %d): no power", x.blocks, x.pages)
		}
		bill(t, "New", c, 0, 0, 0)
	}
}

// P4.1, New: those that bad names are bad; what names no block is nothing.
func TestNewBad(t *testing.T) {
	for _, x := range []struct {
		bad  []int
		want []bool
	}{
		{nil, []bool{false, false, false, false}},
		{[]int{}, []bool{false, false, false, false}},
		{[]int{0}, []bool{true, false, false, false}},
		{[]int{3}, []bool{false, false, false, true}},
		{[]int{2, 1}, []bool{false, true, true, false}},
		{[]int{1, 1, 1}, []bool{false, true, false, false}},
		{[]int{3, 2, 1, 0}, []bool{true, true, true, true}},
		{[]int{-1, 4}, []bool{false, false, false, false}},
		{[]int{4, -1, 2, math.MaxInt, math.MinInt}, []bool{false, false, true, false}},
	} {
		was := slices.Clone(x.bad)
		c := chip.New(4, 2, x.bad)
		for i, b := range c.Blocks() {
			if !same(b, block(x.want[i], 0, 0, "", "")) {
				t.Errorf("New(4, 2, %v): block %d: %v", x.bad, i, b)
			}
		}
		if !slices.Equal(x.bad, was) {
			t.Errorf("New(4, 2, %v): it was %v", x.bad, was)
		}
	}
}

// R2: what stands behind the length of the bad list is not read, nor is the list kept.
func TestNewBadKept(t *testing.T) {
	bad := []int{1, 0, 2}
	c := chip.New(3, 1, bad[:1])
	bad[0] = 2
	is(t, "bad", c, block(false, 0, 0, ""), block(true, 0, 0, ""), block(false, 0, 0, ""))
	if bad[1] != 0 || bad[2] != 2 {
		t.Errorf("behind the length: %v", bad)
	}
}

// noSpots are spots that a chip of two blocks of three pages has not.
var noSpots = []api.Spot{{Block: -1}, {Block: 2}, {Page: -1}, {Page: 3}, {Block: 1, Page: 3}, {Block: 2, Page: 3}, {Block: -1, Page: -1}, {Block: math.MaxInt}, {Block: math.MinInt}, {Page: math.MaxInt}, {Page: math.MinInt}, {Block: math.MaxInt, Page: math.MaxInt}}

// P4.1, Read: what stands there; nothing of what was not programmed, or was erased.
func TestRead(t *testing.T) {
	c := full(t)
	run(t, "read", c, []step{
		{do: "read", a: 0, b: 0, text: "ab"},
		{do: "read", a: 0, b: 1, text: "cde"},
		{do: "read", a: 0, b: 2, text: "f"},
		{do: "read", a: 0, b: 1, text: "cde"},
		{do: "read", a: 1, b: 0},
		{do: "read", a: 1, b: 2},
		{do: "erase", a: 0},
		{do: "read", a: 0, b: 0},
		{do: "read", a: 0, b: 2},
	})
	bill(t, "read", c, 8, 3, 1)
}

// P4.1, Read: ErrArg where there is no such spot, with power and without; it is not counted.
func TestReadNoSpot(t *testing.T) {
	c := full(t)
	for range 2 {
		for _, s := range noSpots {
			if b, err := c.Read(s); len(b) != 0 || err != api.ErrArg {
				t.Errorf("Read(%v): %q, %d", s, b, err)
			}
		}
		c.Cut(0, 0)
		c.Erase(1)
	}
	bill(t, "no spot", c, 0, 3, 1)
}

// P4.1, Read: of a bad block as of others, of one that was bad from the beginning, too.
func TestReadBad(t *testing.T) {
	c := chip.New(3, 2, []int{2})
	run(t, "bad", c, []step{
		{do: "program", a: 0, b: 0, text: "abc"},
		{do: "fail", a: 0},
		{do: "program", a: 0, b: 1, text: "defgh", err: api.ErrBad},
		{do: "program", a: 1, b: 0, text: "xyz"},
		{do: "worn", a: 0},
		{do: "erase", a: 1, err: api.ErrBad},
		{do: "read", a: 0, b: 0, text: "abc"},
		{do: "read", a: 0, b: 1, text: "de"},
		{do: "read", a: 1, b: 0, text: "xyz"},
		{do: "read", a: 1, b: 1},
		{do: "read", a: 2, b: 0},
	})
	bill(t, "bad", c, 5, 3, 1)
}

// P4.2, Program: page by page, in order; each block goes by itself.
func TestProgram(t *testing.T) {
	c := chip.New(2, 3, nil)
	run(t, "program", c, []step{
		{do: "program", a: 0, b: 1, text: "a", err: api.ErrOrder},
		{do: "program", a: 0, b: 0, text: "a"},
		{do: "program", a: 0, b: 0, text: "b", err: api.ErrOrder},
		{do: "program", a: 0, b: 2, text: "b", err: api.ErrOrder},
		{do: "program", a: 1, b: 0, text: "c"},
		{do: "program", a: 0, b: 1, text: "d"},
		{do: "program", a: 0, b: 2, text: "e"},
		{do: "program", a: 0, b: 2, text: "f", err: api.ErrOrder},
		{do: "program", a: 0, b: 0, text: "f", err: api.ErrOrder},
		{do: "program", a: 1, b: 2, text: "g", err: api.ErrOrder},
	})
	is(t, "program", c, block(false, 3, 0, "a", "d", "e"), block(false, 1, 0, "c", "", ""))
	bill(t, "program", c, 0, 4, 0)
	run(t, "again", c, []step{
		{do: "erase", a: 0},
		{do: "program", a: 0, b: 2, text: "h", err: api.ErrOrder},
		{do: "program", a: 0, b: 0, text: "h"},
	})
	is(t, "again", c, block(false, 1, 1, "h", "", ""), block(false, 1, 0, "c", "", ""))
}

// P4.2, Program: a page has 1 to MaxSheet bytes.
func TestProgramSizes(t *testing.T) {
	c := chip.New(1, 4, nil)
	for i, n := range []int{1, 2, api.MaxSheet - 1, api.MaxSheet} {
		b := bytes.Repeat([]byte{byte(i + 1)}, n)
		if err := c.Program(api.Spot{Page: i}, b); err != api.OK {
			t.Errorf("%d bytes: %d", n, err)
		}
		if got, err := c.Read(api.Spot{Page: i}); !bytes.Equal(got, b) || err != api.OK {
			t.Errorf("%d bytes: read %d, %d", n, len(got), err)
		}
	}
	c = chip.New(1, 4, nil)
	for _, b := range [][]byte{nil, {}, make([]byte, 0, 9), make([]byte, api.MaxSheet+1), make([]byte, 9*api.MaxSheet)} {
		if err := c.Program(api.Spot{}, b); err != api.ErrArg {
			t.Errorf("%d bytes: %d", len(b), err)
		}
	}
	is(t, "sizes", c, block(false, 0, 0, "", "", "", ""))
	bill(t, "sizes", c, 0, 0, 0)
}

// P4.2, Program: a page of noughts is not a page of nothing.
func TestProgramNoughts(t *testing.T) {
	c := chip.New(1, 2, nil)
	c.Program(api.Spot{}, []byte{0, 0, 0})
	if b, err := c.Read(api.Spot{}); !bytes.Equal(b, []byte{0, 0, 0}) || err != api.OK {
		t.Errorf("%v, %d", b, err)
	}
}

// P4.2, Program: of several errors the first one that its sentence lists; what is refused changes nothing.
func TestProgramErrors(t *testing.T) {
	c := chip.New(2, 3, []int{1})
	for _, s := range noSpots {
		if err := c.Program(s, []byte{1}); err != api.ErrArg {
			t.Errorf("Program(%v): %d", s, err)
		}
	}
	was := c.Blocks()
	run(t, "bad", c, []step{
		{do: "program", a: 1, b: 0, text: "", err: api.ErrArg},
		{do: "program", a: 1, b: 0, text: "a", err: api.ErrBad},
		{do: "program", a: 1, b: 1, text: "a", err: api.ErrBad},
		{do: "program", a: 0, b: 1, text: "", err: api.ErrArg},
		{do: "program", a: 0, b: 1, text: "a", err: api.ErrOrder},
	})
	is(t, "refused", c, was...)
	bill(t, "refused", c, 0, 0, 0)
	run(t, "down", c, []step{
		{do: "cut"},
		{do: "erase", a: 0, err: api.ErrDown},
		{do: "program", a: 1, b: 0, text: "", err: api.ErrArg},
		{do: "program", a: 1, b: 3, text: "a", err: api.ErrArg},
		{do: "program", a: 1, b: 0, text: "a", err: api.ErrDown},
		{do: "program", a: 0, b: 1, text: "a", err: api.ErrDown},
		{do: "program", a: 0, b: 0, text: "a", err: api.ErrDown},
	})
	bill(t, "down", c, 0, 0, 1)
}

// P4.2, Program: one that fails leaves the first half (down), and the block is bad.
func TestProgramFails(t *testing.T) {
	for _, x := range []struct{ text, want string }{{"a", ""}, {"ab", "a"}, {"abc", "a"}, {"abcd", "ab"}, {"abcdefghi", "abcd"}} {
		c := chip.New(2, 3, nil)
		run(t, x.text, c, []step{
			{do: "program", a: 0, b: 0, text: "first"},
			{do: "fail", a: 0},
			{do: "program", a: 0, b: 1, text: x.text, err: api.ErrBad},
			{do: "program", a: 0, b: 2, text: "no", err: api.ErrBad},
			{do: "erase", a: 0, err: api.ErrBad},
			{do: "program", a: 1, b: 0, text: "on"},
		})
		is(t, x.text, c, block(true, 2, 0, "first", x.want, ""), block(false, 1, 0, "on", "", ""))
		bill(t, x.text, c, 0, 3, 0)
	}
}

// P4.2, P4.4: the power goes at a program: the first keep bytes stand there, and the block is no bad one.
func TestProgramCut(t *testing.T) {
	for _, x := range []struct {
		keep int
		want string
	}{
		{math.MinInt, ""}, {-1, ""}, {0, ""}, {1, "a"}, {2, "ab"}, {4, "abcd"}, {5, "abcde"}, {6, "abcde"}, {math.MaxInt, "abcde"},
	} {
		name := fmt.Sprint("keep ", x.keep)
		c := chip.New(1, 3, nil)
		run(t, name, c, []step{
			{do: "program", a: 0, b: 0, text: "first"},
			{do: "cut", a: 0, b: x.keep},
			{do: "program", a: 0, b: 1, text: "abcde", err: api.ErrDown},
		})
		is(t, name, c, block(false, 2, 0, "first", x.want, ""))
		run(t, name, c, []step{
			{do: "power"},
			{do: "read", a: 0, b: 1, text: x.want},
			{do: "program", a: 0, b: 1, text: "g", err: api.ErrOrder},
			{do: "program", a: 0, b: 2, text: "g"},
		})
		is(t, name, c, block(false, 3, 0, "first", x.want, "g"))
		bill(t, name, c, 1, 3, 0)
	}
}

// P4.3, Erase: all pages are nothing, Next 0, Count one more; of that block alone.
func TestErase(t *testing.T) {
	c := full(t)
	run(t, "erase", c, []step{
		{do: "program", a: 1, b: 0, text: "x"},
		{do: "erase", a: 0},
	})
	is(t, "erase", c, block(false, 0, 1, "", "", ""), block(false, 1, 0, "x", "", ""))
	run(t, "again", c, []step{
		{do: "erase", a: 0},
		{do: "program", a: 0, b: 0, text: "y"},
		{do: "erase", a: 0},
		{do: "erase", a: 1},
	})
	is(t, "again", c, block(false, 0, 3, "", "", ""), block(false, 0, 1, "", "", ""))
	bill(t, "again", c, 0, 5, 4)
}

// P4.3, Erase: of several errors the first one that its sentence lists; what is refused changes nothing.
func TestEraseErrors(t *testing.T) {
	c := chip.New(2, 2, []int{1})
	none := []int{-1, 2, 64, math.MinInt, math.MaxInt}
	for _, i := range none {
		if err := c.Erase(i); err != api.ErrArg {
			t.Errorf("Erase(%d): %d", i, err)
		}
	}
	run(t, "bad", c, []step{{do: "erase", a: 1, err: api.ErrBad}})
	is(t, "refused", c, block(false, 0, 0, "", ""), block(true, 0, 0, "", ""))
	bill(t, "refused", c, 0, 0, 0)
	run(t, "down", c, []step{
		{do: "cut"},
		{do: "program", a: 0, b: 0, text: "a", err: api.ErrDown},
		{do: "erase", a: 1, err: api.ErrDown},
		{do: "erase", a: 0, err: api.ErrDown},
	})
	for _, i := range none {
		if err := c.Erase(i); err != api.ErrArg {
			t.Errorf("down: Erase(%d): %d", i, err)
		}
	}
	is(t, "down", c, block(false, 1, 0, "", ""), block(true, 0, 0, "", ""))
	bill(t, "down", c, 0, 1, 0)
}

// P4.3, Erase: one that fails leaves all as it was, but that it is counted, and the block bad.
func TestEraseFails(t *testing.T) {
	c := chip.New(2, 3, nil)
	run(t, "worn", c, []step{
		{do: "program", a: 0, b: 0, text: "ab"},
		{do: "program", a: 0, b: 1, text: "c"},
		{do: "worn", a: 0},
		{do: "erase", a: 0, err: api.ErrBad},
	})
	is(t, "worn", c, block(true, 2, 1, "ab", "c", ""), block(false, 0, 0, "", "", ""))
	run(t, "worn", c, []step{
		{do: "erase", a: 0, err: api.ErrBad},
		{do: "program", a: 0, b: 2, text: "d", err: api.ErrBad},
		{do: "erase", a: 1},
	})
	is(t, "worn", c, block(true, 2, 1, "ab", "c", ""), block(false, 0, 1, "", "", ""))
	bill(t, "worn", c, 0, 2, 2)
}

// P4.3, P4.4: the power goes at an erase: the first keep pages are nothing; Next is 0 if these are all, else pages.
func TestEraseCut(t *testing.T) {
	for _, x := range []struct {
		keep int
		want api.Block
	}{
		{math.MinInt, block(false, 3, 1, "ab", "cde", "f")},
		{-1, block(false, 3, 1, "ab", "cde", "f")},
		{0, block(false, 3, 1, "ab", "cde", "f")},
		{1, block(false, 3, 1, "", "cde", "f")},
		{2, block(false, 3, 1, "", "", "f")},
		{3, block(false, 0, 1, "", "", "")},
		{4, block(false, 0, 1, "", "", "")},
		{math.MaxInt, block(false, 0, 1, "", "", "")},
	} {
		name := fmt.Sprint("keep ", x.keep)
		c := full(t)
		run(t, name, c, []step{
			{do: "program", a: 1, b: 0, text: "x"},
			{do: "cut", a: 0, b: x.keep},
			{do: "erase", a: 0, err: api.ErrDown},
		})
		is(t, name, c, x.want, block(false, 1, 0, "x", "", ""))
		bill(t, name, c, 0, 4, 1)
		err := api.ErrOrder
		if x.want.Next == 0 {
			err = api.OK
		}
		run(t, name, c, []step{
			{do: "power"},
			{do: "program", a: 0, b: 0, text: "y", err: err},
			{do: "erase", a: 0},
			{do: "program", a: 0, b: 0, text: "z"},
		})
		is(t, name, c, block(false, 1, 2, "z", "", ""), block(false, 1, 0, "x", "", ""))
	}
}

// P4.3: of a block that has only some pages programmed, or none, a torn erase leaves Next at the end all the same.
func TestEraseCutEarly(t *testing.T) {
	for n := range 3 {
		for keep := range 5 {
			name := fmt.Sprint(n, " pages, keep ", keep)
			c := chip.New(1, 3, nil)
			pages := make([]string, 3)
			for p := range n {
				run(t, name, c, []step{{do: "program", b: p, text: "abc"}})
				if p >= keep {
					pages[p] = "abc"
				}
			}
			run(t, name, c, []step{{do: "cut", a: 0, b: keep}, {do: "erase", err: api.ErrDown}})
			next := 3
			if keep >= 3 {
				next = 0
			}
			is(t, name, c, block(false, next, 1, pages...))
		}
	}
}

// upTo programs, or erases, one block a time till one tells other than OK, at most twenty times, and tells how many told OK.
func upTo(c *chip.Chip, erase bool) (n int, err api.Errno) {
	for i := range 20 {
		if erase {
			err = c.Erase(i)
		} else {
			err = c.Program(api.Spot{Block: i}, []byte("abcd"))
		}
		if err != api.OK {
			return n, err
		}
		n++
	}
	return n, api.OK
}

// P4.4, Fail, Worn, Cut: the one behind the next n fails; below 0 none.
func TestWhen(t *testing.T) {
	for _, x := range []struct{ n, want int }{{0, 0}, {1, 1}, {2, 2}, {19, 19}, {20, 20}, {21, 20}, {math.MaxInt, 20}, {-1, 20}, {-2, 20}, {math.MinInt, 20}} {
		for _, erase := range []bool{false, true} {
			for _, cut := range []bool{false, true} {
				c := chip.New(20, 2, nil)
				want, last := x.want, api.ErrBad
				switch {
				case cut:
					c.Cut(x.n, 1)
					last = api.ErrDown
				case erase:
					c.Worn(x.n)
				default:
					c.Fail(x.n)
				}
				if want == 20 {
					last = api.OK
				}
				if got, err := upTo(c, erase); got != want || err != last {
					t.Errorf("n %d, erase %v, cut %v: %d, %d", x.n, erase, cut, got, err)
				}
			}
		}
	}
}

// P4.4: Fail is of programs alone, Worn of erases alone, Cut of both; what is refused, and what is read, is not counted.
func TestWhatCounts(t *testing.T) {
	c := chip.New(4, 4, []int{3})
	run(t, "fail", c, []step{
		{do: "fail", a: 1},
		{do: "erase", a: 0},
		{do: "erase", a: 0},
		{do: "read", a: 0, b: 0},
		{do: "program", a: 0, b: 1, text: "a", err: api.ErrOrder},
		{do: "program", a: 3, b: 0, text: "a", err: api.ErrBad},
		{do: "program", a: 0, b: 0, text: "", err: api.ErrArg},
		{do: "program", a: 0, b: 9, text: "a", err: api.ErrArg},
		{do: "program", a: 0, b: 0, text: "ab"},
		{do: "erase", a: 1},
		{do: "program", a: 0, b: 1, text: "cd", err: api.ErrBad},
	})
	run(t, "worn", c, []step{
		{do: "worn", a: 1},
		{do: "program", a: 1, b: 0, text: "a"},
		{do: "program", a: 1, b: 1, text: "a"},
		{do: "erase", a: 3, err: api.ErrBad},
		{do: "erase", a: 4, err: api.ErrArg},
		{do: "read", a: 1, b: 1, text: "a"},
		{do: "erase", a: 1},
		{do: "program", a: 1, b: 0, text: "a"},
		{do: "erase", a: 1, err: api.ErrBad},
	})
	run(t, "cut", c, []step{
		{do: "cut", a: 2, b: 1},
		{do: "erase", a: 1, err: api.ErrBad},
		{do: "program", a: 1, b: 0, text: "a", err: api.ErrBad},
		{do: "program", a: 2, b: 1, text: "a", err: api.ErrOrder},
		{do: "read", a: 2, b: 0},
		{do: "program", a: 2, b: 0, text: "a"},
		{do: "erase", a: 2},
		{do: "program", a: 2, b: 0, text: "xyz", err: api.ErrDown},
	})
	is(t, "all", c, block(true, 2, 2, "ab", "c", "", ""), block(true, 1, 3, "a", "", "", ""), block(false, 1, 1, "x", "", "", ""), block(true, 0, 0, "", "", "", ""))
	bill(t, "all", c, 3, 7, 6)
}

// P4.4: what came is over; the next one must be asked for again.
func TestOver(t *testing.T) {
	c := chip.New(4, 4, nil)
	run(t, "over", c, []step{
		{do: "fail", a: 0},
		{do: "program", a: 0, b: 0, text: "ab", err: api.ErrBad},
		{do: "program", a: 1, b: 0, text: "ab"},
		{do: "program", a: 1, b: 1, text: "ab"},
		{do: "worn", a: 0},
		{do: "erase", a: 1, err: api.ErrBad},
		{do: "erase", a: 2},
		{do: "erase", a: 2},
		{do: "cut", a: 0, b: 1},
		{do: "program", a: 2, b: 0, text: "ab", err: api.ErrDown},
		{do: "power"},
		{do: "program", a: 2, b: 1, text: "ab"},
		{do: "erase", a: 2},
	})
}

// P4.4: a later call of the same name replaces it, another name's does not.
func TestReplaced(t *testing.T) {
	c := chip.New(4, 8, nil)
	run(t, "replaced", c, []step{
		{do: "fail", a: 0},
		{do: "fail", a: 2},
		{do: "program", a: 0, b: 0, text: "ab"},
		{do: "fail", a: 1},
		{do: "program", a: 0, b: 1, text: "ab"},
		{do: "worn", a: 0},
		{do: "worn", a: -1},
		{do: "erase", a: 1},
		{do: "worn", a: 3},
		{do: "worn", a: 1},
		{do: "cut", a: 0, b: 0},
		{do: "cut", a: 5, b: 3},
		{do: "cut", a: 4, b: 1},
		{do: "program", a: 0, b: 2, text: "ab", err: api.ErrBad},
		{do: "erase", a: 1},
		{do: "erase", a: 1, err: api.ErrBad},
		{do: "fail", a: 0},
		{do: "fail", a: -1},
		{do: "program", a: 2, b: 0, text: "ab"},
		{do: "program", a: 2, b: 1, text: "abc", err: api.ErrDown},
	})
	is(t, "replaced", c, block(true, 3, 0, "ab", "ab", "a", "", "", "", "", ""), block(true, 0, 3, "", "", "", "", "", "", "", ""), block(false, 2, 0, "ab", "a", "", "", "", "", "", ""), block(false, 0, 0, "", "", "", "", "", "", "", ""))
	run(t, "never", c, []step{
		{do: "power"},
		{do: "cut", a: 0, b: 0},
		{do: "cut", a: -1, b: 2},
		{do: "program", a: 2, b: 2, text: "ab"},
		{do: "erase", a: 2},
		{do: "program", a: 2, b: 0, text: "ab"},
	})
}

// P4.4: one that fails counts for Cut; one at which the power goes counts for Fail and Worn.
func TestBothCount(t *testing.T) {
	c := chip.New(4, 8, nil)
	run(t, "fails", c, []step{
		{do: "cut", a: 2, b: 0},
		{do: "fail", a: 0},
		{do: "worn", a: 0},
		{do: "program", a: 0, b: 0, text: "ab", err: api.ErrBad},
		{do: "erase", a: 1, err: api.ErrBad},
		{do: "program", a: 2, b: 0, text: "ab", err: api.ErrDown},
		{do: "power"},
	})
	run(t, "program", c, []step{
		{do: "fail", a: 2},
		{do: "cut", a: 1, b: 0},
		{do: "program", a: 2, b: 1, text: "ab"},
		{do: "program", a: 2, b: 2, text: "ab", err: api.ErrDown},
		{do: "power"},
		{do: "program", a: 2, b: 3, text: "ab", err: api.ErrBad},
	})
	run(t, "erase", c, []step{
		{do: "worn", a: 1},
		{do: "cut", a: 0, b: 8},
		{do: "erase", a: 3, err: api.ErrDown},
		{do: "power"},
		{do: "erase", a: 3, err: api.ErrBad},
	})
}

// P4.4: where both come, the power goes, no block becomes bad, and both are over.
func TestBothCome(t *testing.T) {
	c := chip.New(2, 4, nil)
	run(t, "program", c, []step{
		{do: "fail", a: 1},
		{do: "cut", a: 1, b: 3},
		{do: "program", a: 0, b: 0, text: "abcd"},
		{do: "program", a: 0, b: 1, text: "abcd", err: api.ErrDown},
		{do: "power"},
		{do: "program", a: 0, b: 2, text: "efgh"},
		{do: "program", a: 0, b: 3, text: "ijkl"},
	})
	is(t, "program", c, block(false, 4, 0, "abcd", "abc", "efgh", "ijkl"), block(false, 0, 0, "", "", "", ""))
	run(t, "erase", c, []step{
		{do: "worn", a: 0},
		{do: "cut", a: 0, b: 1},
		{do: "erase", a: 0, err: api.ErrDown},
		{do: "power"},
	})
	is(t, "erase", c, block(false, 4, 1, "", "abc", "efgh", "ijkl"), block(false, 0, 0, "", "", "", ""))
	run(t, "erase", c, []step{{do: "erase", a: 0}, {do: "erase", a: 1}})
}

// P4.4: while the power is gone nothing is done, and nothing counted; Fail and Worn stay behind it.
func TestDown(t *testing.T) {
	c := chip.New(2, 3, nil)
	run(t, "down", c, []step{
		{do: "program", a: 0, b: 0, text: "abc"},
		{do: "fail", a: 1},
		{do: "worn", a: 1},
		{do: "cut", a: 0, b: 0},
		{do: "erase", a: 1, err: api.ErrDown},
	})
	was := c.Blocks()
	for range 3 {
		run(t, "down", c, []step{
			{do: "read", a: 0, b: 0, err: api.ErrDown},
			{do: "program", a: 0, b: 1, text: "abc", err: api.ErrDown},
			{do: "erase", a: 0, err: api.ErrDown},
			{do: "erase", a: 1, err: api.ErrDown},
		})
	}
	is(t, "down", c, was...)
	bill(t, "down", c, 0, 1, 1)
	run(t, "power", c, []step{
		{do: "power"},
		{do: "read", a: 0, b: 0, text: "abc"},
		{do: "program", a: 0, b: 1, text: "abc"},
		{do: "program", a: 0, b: 2, text: "abc", err: api.ErrBad},
		{do: "erase", a: 1, err: api.ErrBad},
	})
	bill(t, "power", c, 1, 3, 2)
}

// P4.4: what is asked for while the power is gone: Fail and Worn hold, Cut is over when it comes again.
func TestAskedDown(t *testing.T) {
	c := chip.New(2, 3, nil)
	run(t, "asked", c, []step{
		{do: "cut", a: 0, b: 0},
		{do: "program", a: 0, b: 0, text: "a", err: api.ErrDown},
		{do: "cut", a: 0, b: 0},
		{do: "fail", a: 1},
		{do: "worn", a: 1},
		{do: "program", a: 0, b: 1, text: "a", err: api.ErrDown},
		{do: "power"},
		{do: "program", a: 0, b: 1, text: "a"},
		{do: "erase", a: 0},
		{do: "program", a: 0, b: 0, text: "a", err: api.ErrBad},
		{do: "erase", a: 1, err: api.ErrBad},
	})
}

// P4.4, Power: Cut is over, where the power was never gone, too; Fail and Worn are not.
func TestPower(t *testing.T) {
	c := chip.New(3, 3, nil)
	run(t, "power", c, []step{
		{do: "power"},
		{do: "fail", a: 1},
		{do: "worn", a: 0},
		{do: "cut", a: 0, b: 0},
		{do: "power"},
		{do: "program", a: 0, b: 0, text: "a"},
		{do: "program", a: 0, b: 1, text: "a", err: api.ErrBad},
		{do: "erase", a: 1, err: api.ErrBad},
		{do: "program", a: 2, b: 0, text: "a"},
		{do: "power"},
		{do: "program", a: 2, b: 1, text: "a"},
	})
	bill(t, "power", c, 0, 4, 1)
}

// P4.4, Block: of no block zero.
func TestNoBlock(t *testing.T) {
	c := full(t)
	for _, i := range []int{-1, 2, 64, math.MinInt, math.MaxInt} {
		if got := c.Block(i); !same(got, api.Block{}) {
			t.Errorf("Block(%d): %v", i, got)
		}
	}
}

// R2: what is handed in is neither changed nor kept; what lies behind its length is neither read nor written.
func TestHandedIn(t *testing.T) {
	for _, when := range []string{"done", "fails", "cut"} {
		room := []byte("abcdefgh")
		c := chip.New(1, 2, nil)
		want := "abcd"
		switch when {
		case "fails":
			c.Fail(0)
			want = "ab"
		case "cut":
			c.Cut(0, 7)
		}
		c.Program(api.Spot{}, room[:4])
		c.Power()
		if string(room) != "abcdefgh" {
			t.Errorf("%s: changed: %q", when, room)
		}
		clear(room)
		run(t, when, c, []step{{do: "read", text: want}})
	}
}

// R2: what is told is new memory: who writes into it, or behind it, changes neither the chip nor another answer.
func TestTold(t *testing.T) {
	c := full(t)
	wipe := func(b []byte) { clear(b[:cap(b)]) }
	a, _ := c.Read(api.Spot{})
	b, _ := c.Read(api.Spot{})
	one, all, more := c.Block(0), c.Blocks(), c.Blocks()
	wipe(a)
	if string(b) != "ab" {
		t.Errorf("Read: %q", b)
	}
	want := block(false, 3, 0, "ab", "cde", "f")
	for _, p := range one.Pages {
		wipe(p)
	}
	clear(one.Pages)
	if !same(all[0], want) {
		t.Errorf("Blocks: %v", all[0])
	}
	pages := all[0].Pages[:cap(all[0].Pages)]
	for _, p := range pages {
		wipe(p)
	}
	clear(pages)
	clear(all[:1])
	if !same(more[0], want) || !same(more[1], block(false, 0, 0, "", "", "")) || !same(all[1], more[1]) {
		t.Errorf("Blocks: %v, %v", all, more)
	}
	more[1].Pages[0] = []byte("x")
	is(t, "told", c, want, block(false, 0, 0, "", "", ""))
}

// R2: no two lists of one answer share memory: what is put behind one does not stand in the next.
func TestToldApart(t *testing.T) {
	b := full(t).Block(0)
	for i := range b.Pages {
		b.Pages[i] = append(b.Pages[i], "zzzz"...)
	}
	if !same(b, block(false, 3, 0, "abzzzz", "cdezzzz", "fzzzz")) {
		t.Errorf("%v", b)
	}
	l := chip.New(3, 2, nil).Blocks()
	for i := range l {
		l[i].Pages = append(l[i].Pages, []byte{byte(i)})
		l[i].Pages[0] = []byte{byte(i + 10)}
	}
	for i := range l {
		if l[i].Pages[2][0] != byte(i) || l[i].Pages[0][0] != byte(i+10) {
			t.Errorf("%d: %v", i, l[i])
		}
	}
}

// P4.4: a nil chip, and R3: one that was made without New.
func TestNil(t *testing.T) {
	var none *chip.Chip
	for name, c := range map[string]*chip.Chip{"nil": none, "made without New": {}} {
		for range 2 {
			if b, err := c.Read(api.Spot{}); len(b) != 0 || err != api.ErrArg {
				t.Errorf("%s: Read: %v, %d", name, b, err)
			}
			if err := c.Program(api.Spot{}, []byte{1}); err != api.ErrArg {
				t.Errorf("%s: Program: %d", name, err)
			}
			if err := c.Erase(0); err != api.ErrArg {
				t.Errorf("%s: Erase: %d", name, err)
			}
			if b := c.Block(0); !same(b, api.Block{}) {
				t.Errorf("%s: Block: %v", name, b)
			}
			if l := c.Blocks(); len(l) != 0 {
				t.Errorf("%s: Blocks: %v", name, l)
			}
			if c.Down() {
				t.Errorf("%s: Down", name)
			}
			bill(t, name, c, 0, 0, 0)
			c.Fail(0)
			c.Worn(0)
			c.Cut(0, 0)
			c.Power()
		}
	}
}

// dice tells numbers that look like none in particular, the same each time.
type dice uint64

func (d *dice) below(n int) int {
	*d = *d*6364136223846793005 + 1442695040888963407
	return int(uint64(*d)>>33) % n
}

// meant is what was to be programmed on a spot since its block was erased, and whether that was told to be done.
type meant struct {
	text string
	done bool
}

// P4.5: through scripts of all calls: what stands in a page stands there till its block is erased, and only that of which the chip
// told that it was not done, which is the last one in its block then, may be a part of what it should be.
func TestStands(t *testing.T) {
	for seed := range 300 {
		d := dice(seed)
		c := chip.New(1+d.below(4), 1+d.below(4), []int{d.below(8)})
		pages := map[api.Spot]meant{}
		for n := range 120 {
			was := c.Blocks()
			i := d.below(len(was))
			erased, spot := -1, api.Spot{Block: -1}
			switch d.below(12) {
			case 0:
				c.Fail(d.below(9) - 1)
			case 1:
				c.Worn(d.below(9) - 1)
			case 2:
				c.Cut(d.below(12)-1, d.below(9)-1)
			case 3, 4:
				c.Power()
			case 5:
				c.Read(api.Spot{Block: i, Page: d.below(len(was[i].Pages))})
			case 6:
				c.Erase(i)
				erased = i
			default:
				text := fmt.Sprint("text ", n)[:1+d.below(6)]
				at := api.Spot{Block: i, Page: was[i].Next}
				err := c.Program(at, []byte(text))
				if c.Block(i).Next > was[i].Next {
					spot = at
					pages[at] = meant{text, err == api.OK}
				}
			}
			stands(t, c, was, erased, spot)
			parts(t, c, pages)
		}
	}
}

// stands holds what is against what was ahead of one call, which erased one block, or programmed one spot, or neither.
func stands(t *testing.T, c *chip.Chip, was []api.Block, erased int, spot api.Spot) {
	t.Helper()
	for i, b := range c.Blocks() {
		if was[i].Bad && !b.Bad {
			t.Errorf("block %d is bad no more", i)
		}
		for p, page := range b.Pages {
			if i == erased && len(page) == 0 || spot == (api.Spot{Block: i, Page: p}) {
				continue
			}
			if !bytes.Equal(page, was[i].Pages[p]) {
				t.Errorf("block %d, page %d: %q, not %q", i, p, page, was[i].Pages[p])
			}
		}
	}
}

// parts sees to it that a page has all that it was to have, if that was told to be done, else a beginning of it; an erase may have made it nothing.
func parts(t *testing.T, c *chip.Chip, pages map[api.Spot]meant) {
	t.Helper()
	for i, b := range c.Blocks() {
		for p, page := range b.Pages {
			want := pages[api.Spot{Block: i, Page: p}]
			whole := string(page) == want.text
			torn := len(page) < len(want.text) && string(page) == want.text[:len(page)]
			if !whole && !(torn && !want.done) && len(page) > 0 {
				t.Errorf("block %d, page %d: %q of %q", i, p, page, want.text)
			}
		}
	}
}
