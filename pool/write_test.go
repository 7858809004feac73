package pool_test

import (
	"bytes"
	"fmt"
	"slices"
	"testing"

	"potsherd/api"
	"potsherd/block"
	"potsherd/chip"
	"potsherd/plan"
	"potsherd/pool"
	"potsherd/wear"
)

// cost is what was counted since.
func cost(c *chip.Chip, before api.Bill) api.Bill {
	b := c.Bill()
	return api.Bill{Reads: b.Reads - before.Reads, Programs: b.Programs - before.Programs, Erases: b.Erases - before.Erases}
}

func costs(t *testing.T, name string, c *chip.Chip, before, want api.Bill) {
	t.Helper()
	if got := cost(c, before); got != want {
		t.Errorf("%s: it cost %v, not %v", name, got, want)
	}
}

// where a Ref that is live stands; one that is new is found by what the chip has.
func where(t *testing.T, c *chip.Chip, p *pool.Pool, r api.Ref, data string) api.Spot {
	t.Helper()
	for _, f := range p.Live() {
		if f.Ref == r {
			return f.Spot
		}
	}
	at, n := api.Spot{}, 0
	for i, b := range c.Blocks() {
		for j, page := range b.Pages {
			if !b.Bad && bytes.Equal(page, raw(t, r, data)) {
				at, n = spot(i, j), n+1
			}
		}
	}
	if n != 1 {
		t.Errorf("%v stands there %d times", r, n)
	}
	return at
}

func next(c *chip.Chip) []int {
	var l []int
	for _, b := range c.Blocks() {
		l = append(l, b.Next)
	}
	return l
}

// Words: the open block takes pages in order, to its end; then there is another one.
func TestOpenBlock(t *testing.T) {
	c := made(six)
	p := opened(t, c, six, 0, nil, 0)
	if got := next(c); !slices.Equal(got, []int{0, 0, 0, 0, 0, 0}) {
		t.Errorf("at first: %v", got)
	}
	block := -1
	for i := range 32 {
		r := put(t, p, 1, "x")
		at := where(t, c, p, r, "x")
		if i%8 == 0 {
			if at.Block == block {
				t.Errorf("%d: block %d again", i, block)
			}
			block = at.Block
		}
		if at != spot(block, i%8) {
			t.Errorf("%d: it stands at %v, not on block %d", i, at, block)
		}
		if i%3 == 0 {
			p.Undo()
		}
	}
}

// Words: a pool that is opened has no open block, even where one is begun.
func TestNoOpenBlock(t *testing.T) {
	c := made(six)
	live := lay(t, c, 1, ref(1, 1))
	p := opened(t, c, six, 0, live, 1)
	at := where(t, c, p, put(t, p, 2, "x"), "x")
	if at.Block == 1 || at.Page != 0 {
		t.Errorf("%v", at)
	}
}

// Words: as long as more than plan.Floor blocks are clean, nothing is erased, nor read; from then on something is.
func TestFloor(t *testing.T) {
	for spare := range api.MaxSpare + 1 {
		for bad := range spare + 2 {
			g := api.Config{Blocks: 12, Pages: 5, Spare: spare, Data: 4, Wear: 50}
			name := fmt.Sprintf("%d spare, %d bad", spare, bad)
			c := made(g)
			for i := range bad {
				spoil(t, c, i)
			}
			p := opened(t, c, g, 0, nil, 0)
			if bad > spare {
				bads(t, name, p, bad, true)
				continue
			}
			before := c.Bill()
			n := (12 - bad - plan.Floor(g, bad)) * 5
			for range n {
				put(t, p, 1, "x")
				p.Undo()
			}
			costs(t, name, c, before, api.Bill{Programs: n})
			if got := len(block.Cleans(c.Blocks())); got != plan.Floor(g, bad) {
				t.Errorf("%s: %d are clean", name, got)
			}
			put(t, p, 1, "x")
			costs(t, name+", one more", c, before, api.Bill{Programs: n + 1, Erases: 1})
			if got := len(block.Cleans(c.Blocks())); got != plan.Floor(g, bad) {
				t.Errorf("%s, one more: %d are clean", name, got)
			}
		}
	}
}

// crowd is a chip as six has it, whose blocks were erased that often; the first ones are full, and of each so many pages, from its first one on, are live.
func crowd(t *testing.T, counts [6]int, held ...int) (*chip.Chip, []api.Found) {
	t.Helper()
	c := made(six)
	for b, n := range counts {
		warm(t, c, b, n)
	}
	var live []api.Found
	for b, n := range held {
		for range n {
			r := ref(len(live)+1, len(live)+1)
			live = append(live, lay(t, c, b, r)...)
		}
		litter(t, c, b)
	}
	return c, live
}

// even is of blocks that were never erased.
var even [6]int

// stay holds what is live against what it was: the same bytes, wherever they stand now.
func stay(t *testing.T, name string, c *chip.Chip, p *pool.Pool, live []api.Found) {
	t.Helper()
	now := p.Live()
	if len(now) != len(live) {
		t.Errorf("%s: %d are live, not %d", name, len(now), len(live))
	}
	for _, f := range live {
		i := slices.IndexFunc(now, func(g api.Found) bool { return g.Ref == f.Ref })
		if i < 0 {
			t.Errorf("%s: %v is not live", name, f.Ref)
			continue
		}
		if s := now[i].Spot; !bytes.Equal(c.Block(s.Block).Pages[s.Page], raw(t, f.Ref, text(f.Ref))) {
			t.Errorf("%s: %v does not stand at %v", name, f.Ref, s)
		}
		reads(t, name, p, f.Ref, text(f.Ref))
	}
}

// Words: a block without live or new pages is erased, whatever other ones have, and nothing is copied.
func TestEmpty(t *testing.T) {
	for empty := range 4 {
		l := []int{1, 2, 3, 2}
		l[empty] = 0
		c, live := crowd(t, even, l...)
		p := opened(t, c, six, 0, live, 20)
		before := c.Bill()
		r := put(t, p, 20, "x")
		name := fmt.Sprint("block ", empty)
		costs(t, name, c, before, api.Bill{Programs: 1, Erases: 1})
		if b := c.Block(empty); b.Count != 1 {
			t.Errorf("%s: %v", name, b)
		}
		stay(t, name, c, p, live)
		reads(t, name, p, r, "x")
		if got := p.Live(); !slices.Equal(got, live) {
			t.Errorf("%s: they have moved: %v", name, got)
		}
	}
}

// Words: a block that is not full, and not open, is erased as others are.
func TestEmptyNotFull(t *testing.T) {
	c, live := crowd(t, even, 1, 2, 3)
	program(t, c, 3, []byte("litter"))
	p := opened(t, c, six, 0, live, 20)
	before := c.Bill()
	put(t, p, 20, "x")
	costs(t, "not full", c, before, api.Bill{Programs: 1, Erases: 1})
	if c.Block(3).Count != 1 {
		t.Error("it was not erased")
	}
}

// Words: what is new stays as what is live does; when it is new no more its block may be erased.
func TestNewStays(t *testing.T) {
	for _, undone := range []bool{false, true} {
		c, live := crowd(t, even, 3, 3, 3)
		// The open block gets litter, by Undo, and two pages that are new.
		p := opened(t, c, six, 0, live, 20)
		puts(t, p, 6)
		p.Undo()
		a, b := put(t, p, 20, "a"), put(t, p, 21, "b")
		open := where(t, c, p, a, "a").Block
		if undone {
			p.Undo()
		}
		before := c.Bill()
		r := put(t, p, 22, "x")
		if undone {
			costs(t, "undone", c, before, api.Bill{Programs: 1, Erases: 1})
			gone(t, "undone", p, a, b)
		} else {
			costs(t, "new", c, before, api.Bill{Reads: 2, Programs: 3, Erases: 1})
			reads(t, "new", p, a, "a")
			reads(t, "new", p, b, "b")
			if s := where(t, c, p, r, "x"); where(t, c, p, a, "a").Block != s.Block || where(t, c, p, b, "b").Block != s.Block {
				t.Errorf("new: %v stands apart from what was moved", s)
			}
			seal(t, p, a, b, r)
			reads(t, "sealed", p, a, "a")
			reads(t, "sealed", p, b, "b")
		}
		if got := c.Block(open); got.Count != 1 {
			t.Errorf("%v: %v", undone, got)
		}
	}
}

// Words: else the block with the fewest live and new pages is emptied: they are copied, as they are, and the sheet stands behind them.
func TestVictim(t *testing.T) {
	for victim := range 4 {
		for n := 1; n <= 7; n++ {
			l := []int{8, 8, 8, 8}
			l[victim] = n
			c, live := crowd(t, even, l...)
			p := opened(t, c, six, 0, live, 50)
			before := c.Bill()
			name := fmt.Sprintf("block %d, %d pages", victim, n)
			// As many are live as no Seal can name, but a root can be written all the same.
			if err := p.Seal([]byte("root"), []api.Ref{live[0].Ref}); err != api.OK {
				t.Errorf("%s: %d", name, err)
				continue
			}
			costs(t, name, c, before, api.Bill{Reads: n, Programs: n + 1, Erases: 1})
			b := c.Block(victim)
			if b.Count != 1 || !block.Clean(b) {
				t.Errorf("%s: %v", name, b)
			}
			to := 4
			if c.Block(5).Next > 0 {
				to = 5
			}
			if got := next(c); got[to] != n+1 || got[9-to] != 0 {
				t.Errorf("%s: %v", name, got)
			}
			if s := where(t, c, p, ref(0, 51), "root"); s != spot(to, n) {
				t.Errorf("%s: the root stands at %v", name, s)
			}
			for _, f := range live {
				if f.Spot.Block == victim {
					where(t, c, p, f.Ref, text(f.Ref))
				}
			}
		}
	}
}

// Words: the open block goes on behind what was copied into it.
func TestVictimGoesOn(t *testing.T) {
	c, live := crowd(t, even, 3, 2, 3, 3)
	p := opened(t, c, six, 0, live, 20)
	first := where(t, c, p, put(t, p, 20, "x"), "x")
	before := c.Bill()
	for i := range 5 {
		if i == 3 {
			p.Undo()
		}
		if s := where(t, c, p, put(t, p, 20, "x"), "x"); s != spot(first.Block, 3+i) {
			t.Errorf("%d: %v, behind %v", i, s, first)
		}
	}
	costs(t, "the rest of it", c, before, api.Bill{Programs: 5})
	stay(t, "the rest of it", c, p, live)
}

// Words: bad blocks, and what is live on them, stay as they are.
func TestBadKeeps(t *testing.T) {
	c, live := crowd(t, even, 1, 0, 2, 3)
	spoil(t, c, 0)
	spoil(t, c, 1)
	g := api.Config{Blocks: 6, Pages: 8, Spare: 1, Data: 8, Wear: 50}
	p := opened(t, c, g, 1, live, 20)
	old := c.Blocks()
	for range 40 {
		if err := p.Seal(nil, nil); err != api.OK {
			t.Fatalf("%d", err)
		}
	}
	for i := range 2 {
		if got := c.Block(i); fmt.Sprint(got) != fmt.Sprint(old[i]) {
			t.Errorf("%d: %v", i, got)
		}
	}
	c, live = crowd(t, even, 1, 0, 2, 3)
	spoil(t, c, 0)
	p = opened(t, c, g, 1, live, 20)
	for range 40 {
		put(t, p, 30, "x")
		p.Undo()
	}
	stay(t, "on a bad block", c, p, live)
}

// Words: where a program fails the block is bad, what stands there stays, and the sheet is written elsewhere.
func TestFail(t *testing.T) {
	for n := range 5 {
		c := made(six)
		p := opened(t, c, six, 0, nil, 0)
		var l []api.Ref
		before := c.Bill()
		c.Fail(n)
		for i := range 5 {
			l = append(l, put(t, p, i+1, "new"))
		}
		name := fmt.Sprint(n, " ahead")
		costs(t, name, c, before, api.Bill{Programs: 6})
		tells(t, name, p, nil, l, 5)
		bads(t, name, p, 1, false)
		for _, r := range l {
			reads(t, name, p, r, "new")
		}
		seal(t, p, l...)
		for i, f := range p.Live() {
			if want := i < n; c.Block(f.Spot.Block).Bad != want {
				t.Errorf("%s: %v stands on a block that is bad: %v", name, f, !want)
			}
		}
	}
}

// Words: a program, or an erase, that fails while a victim is emptied: all its pages stand elsewhere then.
func TestVictimFails(t *testing.T) {
	for _, x := range []struct {
		name string
		fail func(c *chip.Chip)
		want api.Bill
		bad  bool // the victim
	}{
		{"the first copy", func(c *chip.Chip) { c.Fail(0) }, api.Bill{Reads: 2, Programs: 1 + 3, Erases: 1}, false},
		{"the second copy", func(c *chip.Chip) { c.Fail(1) }, api.Bill{Reads: 2, Programs: 2 + 3, Erases: 1}, false},
		{"the sheet", func(c *chip.Chip) { c.Fail(2) }, api.Bill{Reads: 2, Programs: 3 + 1, Erases: 1}, false},
		{"the erase", func(c *chip.Chip) { c.Worn(0) }, api.Bill{Reads: 2, Programs: 3, Erases: 1}, true},
	} {
		c, live := crowd(t, even, 3, 3, 2, 3)
		p := opened(t, c, six, 0, live, 20)
		before := c.Bill()
		x.fail(c)
		r := put(t, p, 20, "x")
		if got := cost(c, before); got.Programs != x.want.Programs || got.Erases != x.want.Erases || got.Reads < x.want.Reads {
			t.Errorf("%s: it cost %v, not %v", x.name, got, x.want)
		}
		bads(t, x.name, p, 1, false)
		stay(t, x.name, c, p, live)
		reads(t, x.name, p, r, "x")
		if b := c.Block(2); b.Bad != x.bad || b.Count != 1 {
			t.Errorf("%s: the victim is %v", x.name, b)
		}
		for _, f := range p.Live() {
			if f.Spot.Block == 2 {
				t.Errorf("%s: %v stands there yet", x.name, f)
			}
		}
		if n := len(block.Cleans(c.Blocks())); n < plan.Floor(six, 1) {
			t.Errorf("%s: %d are clean", x.name, n)
		}
	}
}

// Words: where the erase of a block without pages fails it goes on at the beginning, with one clean block less that must be.
func TestEmptyFails(t *testing.T) {
	c, live := crowd(t, even, 3, 3, 0, 3)
	p := opened(t, c, six, 0, live, 20)
	before := c.Bill()
	c.Worn(0)
	r := put(t, p, 20, "x")
	costs(t, "the erase", c, before, api.Bill{Programs: 1, Erases: 1})
	bads(t, "the erase", p, 1, false)
	if !c.Block(2).Bad {
		t.Error("it is not bad")
	}
	stay(t, "the erase", c, p, live)
	reads(t, "the erase", p, r, "x")
}

// Words: where one fails more than Spare lets, it is ErrRead at once, and live stays.
func TestOverAtOnce(t *testing.T) {
	full := six
	full.Spare = 0
	for _, x := range []struct {
		name string
		l    []int
		fail func(c *chip.Chip)
		want api.Bill
	}{
		{"the first copy", []int{2, 3, 3, 3, 3}, func(c *chip.Chip) { c.Fail(0) }, api.Bill{Reads: 2, Programs: 1}},
		{"the second copy", []int{2, 3, 3, 3, 3}, func(c *chip.Chip) { c.Fail(1) }, api.Bill{Reads: 2, Programs: 2}},
		{"the erase of a victim", []int{2, 3, 3, 3, 3}, func(c *chip.Chip) { c.Worn(0) }, api.Bill{Reads: 2, Programs: 2, Erases: 1}},
		{"the sheet", []int{2, 3, 3, 3, 3}, func(c *chip.Chip) { c.Fail(2) }, api.Bill{Reads: 2, Programs: 3, Erases: 1}},
		{"the erase of an empty one", []int{2, 0, 3, 3, 3}, func(c *chip.Chip) { c.Worn(0) }, api.Bill{Erases: 1}},
		{"the sheet behind that", []int{2, 0, 3, 3, 3}, func(c *chip.Chip) { c.Fail(0) }, api.Bill{Programs: 1, Erases: 1}},
		{"the sheet alone", []int{2, 3, 3, 3}, func(c *chip.Chip) { c.Fail(0) }, api.Bill{Programs: 1}},
	} {
		c, live := crowd(t, even, x.l...)
		p := opened(t, c, full, 0, live, 20)
		before := c.Bill()
		x.fail(c)
		if r, err := p.Put(20, []byte("x")); r != (api.Ref{}) || err != api.ErrRead {
			t.Errorf("%s: %v, %d", x.name, r, err)
		}
		got := cost(c, before)
		if x.want.Reads != got.Reads || x.want.Programs != got.Programs || x.want.Erases != got.Erases {
			t.Errorf("%s: it cost %v, not %v", x.name, got, x.want)
		}
		bads(t, x.name, p, 1, true)
		if p.Seq() != 21 || len(p.New()) > 0 {
			t.Errorf("%s: %d, %v", x.name, p.Seq(), p.New())
		}
		stay(t, x.name, c, p, live)
		before = c.Bill()
		if err := p.Seal(nil, nil); err != api.ErrRead {
			t.Errorf("%s: Seal %d", x.name, err)
		}
		costs(t, x.name+", once more", c, before, api.Bill{})
	}
}

// levelled is what counts are behind an erase of that block, as the words say it.
func levelled(counts []int, in []bool, erased, blocks, most int) []int {
	counts = slices.Clone(counts)
	counts[erased]++
	for range blocks + 2 {
		due := wear.Due(counts, in, most)
		if due < 0 {
			break
		}
		counts[due]++
	}
	return counts
}

// Wear: behind the erase of a block without pages those that are behind are erased, B + 2 of them at most.
func TestWearOfEmpty(t *testing.T) {
	for _, x := range []struct {
		name   string
		counts [6]int
		wear   int
		erases int // in all
	}{
		{"alike", [6]int{}, 2, 1},
		{"as far apart as may be", [6]int{0, 0, 1, 1, 0, 2}, 2, 1},
		{"as far apart as may be, behind the erase", [6]int{0, 0, 1, 1, 0, 0}, 2, 1},
		{"one too far, behind the erase", [6]int{0, 1, 2, 1, 1, 1}, 2, 2},
		{"two too far, behind the erase", [6]int{0, 0, 2, 1, 1, 1}, 2, 3},
		{"a clean one behind", [6]int{1, 1, 1, 1, 0, 3}, 2, 2},
		{"a clean one far behind", [6]int{3, 3, 3, 3, 0, 3}, 2, 3},
		{"a hot one", [6]int{0, 0, 0, 0, 0, 5}, 4, 5},
		{"as hot as may be", [6]int{0, 0, 0, 0, 0, 4}, 4, 1},
		{"as many as there may be", [6]int{0, 1, 0, 0, 0, 4}, 2, 9},
		{"one more than there may be", [6]int{0, 0, 0, 0, 0, 4}, 2, 9},
		{"many more than there may be", [6]int{0, 0, 0, 0, 0, 100}, 2, 9},
		{"as hot as the greatest wear lets", [6]int{0, 0, 0, 0, 0, 50}, 50, 1},
		{"hotter than the greatest wear lets", [6]int{0, 0, 0, 0, 0, 51}, 50, 5},
	} {
		g := six
		g.Wear = x.wear
		c, live := crowd(t, x.counts, 1, 2, 0, 3)
		p := opened(t, c, g, 0, live, 20)
		before := c.Bill()
		r := put(t, p, 20, "x")
		if got := cost(c, before).Erases; got != x.erases {
			t.Errorf("%s: %d were erased, not %d", x.name, got, x.erases)
		}
		want := levelled(x.counts[:], block.Good(c.Blocks()), 2, 6, x.wear)
		if got := block.Counts(c.Blocks()); !slices.Equal(got, want) {
			t.Errorf("%s: %v, not %v", x.name, got, want)
		}
		stay(t, x.name, c, p, live)
		reads(t, x.name, p, r, "x")
		if n := len(block.Cleans(c.Blocks())); n < 2 {
			t.Errorf("%s: %d are clean", x.name, n)
		}
	}
}

// alone is as six without a spare block: one is kept clean.
var alone = api.Config{Blocks: 6, Pages: 8, Spare: 0, Data: 20, Wear: 2}

// Wear: behind the erase of a victim, too; the open block is left out there, so that it may be W + 1 behind.
func TestWearOfVictim(t *testing.T) {
	for _, x := range []struct {
		name   string
		counts [6]int
		erases int
	}{
		{"alike", [6]int{}, 1},
		{"the open one behind", [6]int{2, 2, 2, 2, 2, 0}, 1},
		{"another one behind", [6]int{0, 2, 2, 2, 2, 2}, 2},
		{"both behind", [6]int{0, 2, 2, 2, 2, 0}, 2},
		{"more than there may be", [6]int{0, 0, 100, 0, 0, 0}, 9},
	} {
		c, live := crowd(t, x.counts, 3, 3, 2, 3, 3)
		p := opened(t, c, alone, 0, live, 20)
		before := c.Bill()
		r := put(t, p, 20, "x")
		if got := cost(c, before).Erases; got != x.erases {
			t.Errorf("%s: %d were erased, not %d", x.name, got, x.erases)
		}
		// One block was clean: it is the open one.
		in := []bool{true, true, true, true, true, false}
		want := levelled(x.counts[:], in, 2, 6, 2)
		if got := block.Counts(c.Blocks()); !slices.Equal(got, want) {
			t.Errorf("%s: %v, not %v", x.name, got, want)
		}
		if s := where(t, c, p, r, "x"); s != spot(5, 2) {
			t.Errorf("%s: it stands at %v", x.name, s)
		}
		stay(t, x.name, c, p, live)
	}
}

// Wear: the block that was open, and has no page left, is not left out.
func TestWearOfFull(t *testing.T) {
	c, live := crowd(t, [6]int{2, 2, 2, 2, 2, 0}, 3, 3, 2, 3, 3)
	p := opened(t, c, alone, 0, live, 20)
	for range 6 {
		put(t, p, 20, "x")
	}
	if got := block.Counts(c.Blocks()); !slices.Equal(got, []int{2, 2, 3, 2, 2, 0}) {
		t.Errorf("full: %v", got)
	}
	// All six are new, so that this one is another block's page, and a victim is erased.
	r := put(t, p, 20, "y")
	if got := c.Block(5).Count; got != 1 {
		t.Errorf("the full one: %d", got)
	}
	if n := wear.Apart(block.Counts(c.Blocks()), block.Good(c.Blocks())); n > 3 {
		t.Errorf("%d apart", n)
	}
	stay(t, "full", c, p, live)
	reads(t, "full", p, r, "y")
}

// Wear: a victim's erase that fails is one, too: those that are behind are erased.
func TestWearOfFailed(t *testing.T) {
	g := six
	g.Wear = 2
	c, live := crowd(t, [6]int{0, 3, 1, 3, 3, 3}, 1, 2, 0, 3)
	p := opened(t, c, g, 0, live, 20)
	c.Worn(0)
	r := put(t, p, 20, "x")
	if b := c.Block(2); !b.Bad || b.Count != 2 {
		t.Errorf("%v", b)
	}
	if got := c.Block(0).Count; got != 1 {
		t.Errorf("the cold one: %d", got)
	}
	stay(t, "failed", c, p, live)
	reads(t, "failed", p, r, "x")
}

// Wear: the pages of a block that is behind are copied, as they are, into a clean one with the greatest count; failures are as elsewhere.
func TestWearMoves(t *testing.T) {
	for _, x := range []struct {
		name   string
		fail   func(c *chip.Chip)
		want   api.Bill
		to     int // where they stand then
		bad    int // the block that is
		counts []int
	}{
		{"no failure", func(c *chip.Chip) {}, api.Bill{Reads: 2, Programs: 3, Erases: 2}, 5, -1, []int{1, 3, 2, 3, 2, 3}},
		{"the first copy", func(c *chip.Chip) { c.Fail(0) }, api.Bill{Reads: 2, Programs: 4, Erases: 2}, 2, 5, []int{1, 3, 2, 3, 2, 3}},
		{"the second copy", func(c *chip.Chip) { c.Fail(1) }, api.Bill{Reads: 2, Programs: 5, Erases: 2}, 2, 5, []int{1, 3, 2, 3, 2, 3}},
		{"its erase", func(c *chip.Chip) { c.Worn(1) }, api.Bill{Reads: 2, Programs: 3, Erases: 2}, 5, 0, []int{1, 3, 2, 3, 2, 3}},
		{"the sheet", func(c *chip.Chip) { c.Fail(2) }, api.Bill{Reads: 2, Programs: 4, Erases: 2}, 5, -2, []int{1, 3, 2, 3, 2, 3}},
	} {
		g := six
		g.Wear = 2
		// When 2 is erased it is clean, as 4 and 5 are, and 5 alone was erased 3 times.
		c, live := crowd(t, [6]int{0, 3, 1, 3, 2, 3}, 2, 1, 0, 1)
		p := opened(t, c, g, 0, live, 20)
		before := c.Bill()
		x.fail(c)
		r := put(t, p, 20, "x")
		if got := cost(c, before); got.Programs != x.want.Programs || got.Erases != x.want.Erases || got.Reads < x.want.Reads {
			t.Errorf("%s: it cost %v, not %v", x.name, got, x.want)
		}
		stay(t, x.name, c, p, live)
		reads(t, x.name, p, r, "x")
		for _, f := range p.Live() {
			// Without 5 there are two with the greatest count, 2 and 4: either may be taken.
			if f.Ref.Page <= 2 && f.Spot.Block != x.to && (x.to != 2 || f.Spot.Block != 4) {
				t.Errorf("%s: %v is not in block %d", x.name, f, x.to)
			}
		}
		if got := block.Counts(c.Blocks()); !slices.Equal(got, x.counts) {
			t.Errorf("%s: %v, not %v", x.name, got, x.counts)
		}
		for i, b := range c.Blocks() {
			if x.bad != -2 && b.Bad != (i == x.bad) {
				t.Errorf("%s: block %d is bad: %v", x.name, i, b.Bad)
			}
		}
	}
}

// Where more is live than any Seal can name, or no block is clean, there may be no room: an error is told, and live stays.
func TestNoRoom(t *testing.T) {
	full, none := []int{8, 8, 8, 8}, []int{1, 1, 1, 1, 1, 1}
	for _, x := range []struct {
		name string
		g    api.Config
		l    []int
	}{{"no victim", six, full}, {"no clean block", six, none}, {"no clean block, no spare one", alone, none}} {
		c, live := crowd(t, even, x.l...)
		p := opened(t, c, x.g, 0, live, 50)
		before := c.Bill()
		for i := range 3 {
			if err := p.Seal(nil, []api.Ref{live[0].Ref}); err != api.ErrRead {
				t.Errorf("%s: %d", x.name, err)
			}
			tells(t, x.name, p, live, nil, 51+i)
		}
		if got := cost(c, before); got.Programs > 0 || got.Erases > 0 {
			t.Errorf("%s: it cost %v", x.name, got)
		}
		stay(t, x.name, c, p, live)
	}
}

// Where wear can't move what a block holds, as no block is clean, the sheet is written all the same.
func TestWearWithoutClean(t *testing.T) {
	g := six
	g.Wear = 2
	c, live := crowd(t, [6]int{0, 3, 3, 3, 3, 3}, 1, 0, 0, 0, 1, 1)
	p := opened(t, c, g, 0, live, 20)
	c.Worn(0)
	r := put(t, p, 20, "x")
	bads(t, "worn", p, 1, false)
	stay(t, "worn", c, p, live)
	reads(t, "worn", p, r, "x")
}

// R3: a page that another has erased is told as no sheet, and is no reason to panic.
func TestErasedByOthers(t *testing.T) {
	c, live := crowd(t, even, 3, 3, 2, 3)
	p := opened(t, c, six, 0, live, 20)
	warm(t, c, 2, 1)
	litter(t, c, 2)
	warm(t, c, 0, 1)
	if b, err := p.Read(live[6].Ref); len(b) > 0 || err != api.ErrForm {
		t.Errorf("litter: %q, %d", b, err)
	}
	if b, err := p.Read(live[0].Ref); len(b) > 0 || err != api.ErrForm {
		t.Errorf("nothing: %q, %d", b, err)
	}
	for range 20 {
		p.Put(20, []byte("x"))
		p.Undo()
	}
}
