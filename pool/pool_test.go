package pool_test

import (
	"fmt"
	"math"
	"slices"
	"strings"
	"testing"

	"potsherd/api"
	"potsherd/chip"
	"potsherd/pool"
	"potsherd/sheet"
)

// six must have 18 pages, and has room for 32 (24, where one block is bad from the beginning); 2 of its blocks are kept clean.
var six = api.Config{Blocks: 6, Pages: 8, Spare: 1, Data: 10, Wear: 50}

// one is as six, with one page of data: 7 pages may be live and new ahead of a Put that is refused.
var one = api.Config{Blocks: 6, Pages: 8, Spare: 1, Data: 1, Wear: 50}

func ref(page, seq int) api.Ref     { return api.Ref{Page: page, Seq: seq} }
func spot(block, page int) api.Spot { return api.Spot{Block: block, Page: page} }

func at(r api.Ref, block, page int) api.Found {
	return api.Found{Ref: r, Spot: spot(block, page)}
}

// text is what the tests write for a Ref.
func text(r api.Ref) string {
	return fmt.Sprintf("%d of %d", r.Seq, r.Page)
}

// raw is a sheet as it stands on a page.
func raw(t *testing.T, r api.Ref, data string) []byte {
	t.Helper()
	b, err := sheet.Bytes(api.Sheet{Page: r.Page, Seq: r.Seq, Data: []byte(data)})
	if err != api.OK {
		t.Fatalf("no sheet: %v", r)
	}
	return b
}

func made(g api.Config, bad ...int) *chip.Chip {
	return chip.New(g.Blocks, g.Pages, bad)
}

func opened(t *testing.T, c *chip.Chip, g api.Config, bad int, live []api.Found, seq int) *pool.Pool {
	t.Helper()
	p, err := pool.Open(c, g, bad, live, seq)
	if err != api.OK || p == nil {
		t.Fatalf("not opened: %d", err)
	}
	return p
}

// program puts bytes on the next page of a block.
func program(t *testing.T, c *chip.Chip, block int, b []byte) api.Spot {
	t.Helper()
	s := spot(block, c.Block(block).Next)
	if err := c.Program(s, b); err != api.OK {
		t.Fatalf("%v not programmed: %d", s, err)
	}
	return s
}

// lay puts sheets of these Refs, with their texts, on the next pages of a block.
func lay(t *testing.T, c *chip.Chip, block int, l ...api.Ref) []api.Found {
	t.Helper()
	var all []api.Found
	for _, r := range l {
		all = append(all, api.Found{Ref: r, Spot: program(t, c, block, raw(t, r, text(r)))})
	}
	return all
}

// litter fills a block up with what is no sheet.
func litter(t *testing.T, c *chip.Chip, block int) {
	t.Helper()
	for b := c.Block(block); b.Next < len(b.Pages); b = c.Block(block) {
		program(t, c, block, []byte("litter"))
	}
}

// warm erases a clean block so often.
func warm(t *testing.T, c *chip.Chip, block, times int) {
	t.Helper()
	for range times {
		if err := c.Erase(block); err != api.OK {
			t.Fatalf("%d not erased: %d", block, err)
		}
	}
}

// spoil makes a block bad.
func spoil(t *testing.T, c *chip.Chip, block int) {
	t.Helper()
	c.Worn(0)
	if err := c.Erase(block); err != api.ErrBad {
		t.Fatalf("%d is not bad: %d", block, err)
	}
}

// lose takes the power away at an erase that is done all the same.
func lose(t *testing.T, c *chip.Chip, block int) {
	t.Helper()
	c.Cut(0, api.MaxPages)
	if err := c.Erase(block); err != api.ErrDown || !c.Down() {
		t.Fatalf("there is power: %d", err)
	}
}

func put(t *testing.T, p *pool.Pool, page int, data string) api.Ref {
	t.Helper()
	r, err := p.Put(page, []byte(data))
	if err != api.OK {
		t.Fatalf("page %d not put: %d", page, err)
	}
	return r
}

// puts are as many as n, of the pages from 1 on.
func puts(t *testing.T, p *pool.Pool, n int) []api.Ref {
	t.Helper()
	var l []api.Ref
	for i := range n {
		l = append(l, put(t, p, 1+i, "new"))
	}
	return l
}

func seal(t *testing.T, p *pool.Pool, live ...api.Ref) {
	t.Helper()
	if err := p.Seal([]byte("root"), live); err != api.OK {
		t.Fatalf("%v not sealed: %d", live, err)
	}
}

func reads(t *testing.T, name string, p *pool.Pool, r api.Ref, want string) {
	t.Helper()
	for range 2 {
		if b, err := p.Read(r); string(b) != want || err != api.OK {
			t.Errorf("%s: %v reads %q, %d, not %q", name, r, b, err, want)
		}
	}
}

func gone(t *testing.T, name string, p *pool.Pool, l ...api.Ref) {
	t.Helper()
	for _, r := range l {
		if b, err := p.Read(r); len(b) > 0 || err != api.ErrNone {
			t.Errorf("%s: %v reads %q, %d", name, r, b, err)
		}
	}
}

// chips is all that a chip says.
func chips(c *chip.Chip) string {
	return fmt.Sprint(c.Blocks(), c.Bill(), c.Down())
}

// all is what a pool says without the chip being asked, and what the chip says.
func all(c *chip.Chip, p *pool.Pool) string {
	return fmt.Sprint(p.Live(), p.New(), p.Seq(), p.Bads(), p.Over(), chips(c))
}

// tells holds what a pool says of itself against what it should.
func tells(t *testing.T, name string, p *pool.Pool, live []api.Found, fresh []api.Ref, seq int) {
	t.Helper()
	for range 2 {
		if got := p.Live(); !slices.Equal(got, live) {
			t.Errorf("%s: Live %v, not %v", name, got, live)
		}
		if got := p.New(); !slices.Equal(got, fresh) {
			t.Errorf("%s: New %v, not %v", name, got, fresh)
		}
		if got := p.Seq(); got != seq {
			t.Errorf("%s: Seq %d, not %d", name, got, seq)
		}
	}
}

func bads(t *testing.T, name string, p *pool.Pool, b int, over bool) {
	t.Helper()
	if p.Bads() != b || p.Over() != over {
		t.Errorf("%s: Bads %d, Over %v, not %d, %v", name, p.Bads(), p.Over(), b, over)
	}
}

// The example.
func TestExample(t *testing.T) {
	p := opened(t, made(six), six, 0, nil, 0)
	r, err := p.Put(3, []byte("some bytes"))
	if err != api.OK || r != ref(3, 1) {
		t.Fatalf("%v, %d", r, err)
	}
	if b, err := p.Read(r); string(b) != "some bytes" || err != api.OK {
		t.Errorf("%q, %d", b, err)
	}
}

// P10.1: the chip, the config, bad and seq, each from both sides of its bound.
func TestOpenBounds(t *testing.T) {
	with := func(change func(g *api.Config)) api.Config {
		g := six
		change(&g)
		return g
	}
	most := api.Config{Blocks: api.MaxBlocks, Pages: api.MaxPages, Spare: api.MaxSpare, Data: api.MaxData, Wear: api.MaxWear}
	for _, x := range []struct {
		name string
		c    *chip.Chip
		g    api.Config
		bad  int
		seq  int
		want api.Errno
	}{
		{"as it should be", made(six), six, 0, 0, api.OK},
		{"the greatest", made(most), most, 0, 0, api.OK},
		{"no chip", nil, six, 0, 0, api.ErrArg},
		{"no chip, no config", nil, api.Config{}, 0, 0, api.ErrArg},
		{"no config", made(six), api.Config{}, 0, 0, api.ErrArg},
		{"a block more", chip.New(7, 8, nil), six, 0, 0, api.ErrArg},
		{"a block less", chip.New(5, 8, nil), six, 0, 0, api.ErrArg},
		{"a page more", chip.New(6, 9, nil), six, 0, 0, api.ErrArg},
		{"a page less", chip.New(6, 7, nil), six, 0, 0, api.ErrArg},
		{"the other way round", chip.New(8, 6, nil), six, 0, 0, api.ErrArg},
		{"data that fits just", made(six), with(func(g *api.Config) { g.Data = 24 }), 0, 0, api.OK},
		{"data that fits no more", made(six), with(func(g *api.Config) { g.Data = 25 }), 0, 0, api.ErrArg},
		{"no data", made(six), with(func(g *api.Config) { g.Data = 0 }), 0, 0, api.ErrArg},
		{"spare that fits just", made(six), with(func(g *api.Config) { g.Spare = 2 }), 0, 0, api.OK},
		{"spare that fits no more", made(six), with(func(g *api.Config) { g.Spare = 3 }), 0, 0, api.ErrArg},
		{"wear below", made(six), with(func(g *api.Config) { g.Wear = 1 }), 0, 0, api.ErrArg},
		{"bad that is", made(six, 2), six, 1, 0, api.OK},
		{"bad that is not", made(six), six, 1, 0, api.ErrArg},
		{"more bad than bad says", made(six, 2), six, 0, 0, api.OK},
		{"all bad", made(six, 0, 1, 2, 3, 4, 5), six, 1, 0, api.OK},
		{"bad that does not fit", made(six, 2, 3), six, 2, 0, api.ErrArg},
		{"bad below 0", made(six), six, -1, 0, api.ErrArg},
		{"bad far below 0", made(six), six, math.MinInt, 0, api.ErrArg},
		{"bad far above", made(six), six, math.MaxInt, 0, api.ErrArg},
		{"seq below 0", made(six), six, 0, -1, api.ErrArg},
		{"seq far below 0", made(six), six, 0, math.MinInt, api.ErrArg},
		{"seq of 1", made(six), six, 0, 1, api.OK},
		{"the greatest seq", made(six), six, 0, api.MaxSeq, api.OK},
		{"above the greatest seq", made(six), six, 0, api.MaxSeq + 1, api.ErrArg},
		{"seq far above", made(six), six, 0, math.MaxInt, api.ErrArg},
	} {
		before := chips(x.c)
		p, err := pool.Open(x.c, x.g, x.bad, nil, x.seq)
		if err != x.want || (p != nil) != (x.want == api.OK) {
			t.Errorf("%s: %v, %d, not %d", x.name, p != nil, err, x.want)
			continue
		}
		if chips(x.c) != before {
			t.Errorf("%s: the chip is another", x.name)
		}
		if p != nil {
			tells(t, x.name, p, nil, nil, x.seq)
		}
	}
}

// laid is a chip with sheets, with what is none, and with the beginning of one.
func laid(t *testing.T) *chip.Chip {
	t.Helper()
	c := made(six)
	lay(t, c, 0, ref(1, 1), ref(2, 2), ref(0, 3))
	program(t, c, 0, []byte("litter"))
	torn := raw(t, ref(3, 4), "a torn one")
	program(t, c, 0, torn[:len(torn)-1])
	lay(t, c, 2, ref(1, 5), ref(60, 6), ref(4, 6))
	return c
}

type lives struct {
	name string
	live []api.Found
	ok   bool
}

// rows are live lists on a chip that is laid.
func rows() []lives {
	return []lives{
		{"none", nil, true},
		{"none, not nil", []api.Found{}, true},
		{"one", []api.Found{at(ref(1, 1), 0, 0)}, true},
		{"a later writing of it", []api.Found{at(ref(1, 5), 2, 0)}, true},
		{"the root", []api.Found{at(ref(0, 3), 0, 2)}, true},
		{"all, in no order", []api.Found{at(ref(60, 6), 2, 1), at(ref(0, 3), 0, 2), at(ref(4, 6), 2, 2), at(ref(2, 2), 0, 1), at(ref(1, 1), 0, 0)}, true},
		{"a page twice", []api.Found{at(ref(1, 1), 0, 0), at(ref(2, 2), 0, 1), at(ref(1, 5), 2, 0)}, false},
		{"a Ref twice", []api.Found{at(ref(1, 1), 0, 0), at(ref(1, 1), 0, 0)}, false},
		{"a spot twice", []api.Found{at(ref(1, 1), 0, 0), at(ref(2, 2), 0, 0)}, false},
		{"another page", []api.Found{at(ref(2, 1), 0, 0)}, false},
		{"another writing", []api.Found{at(ref(1, 2), 0, 0)}, false},
		{"the last one wrong", []api.Found{at(ref(1, 1), 0, 0), at(ref(2, 3), 0, 1)}, false},
		{"the first one wrong", []api.Found{at(ref(1, 3), 0, 0), at(ref(2, 2), 0, 1)}, false},
		{"what is no sheet", []api.Found{at(ref(3, 4), 0, 3)}, false},
		{"a torn one", []api.Found{at(ref(3, 4), 0, 4)}, false},
		{"nothing there", []api.Found{at(ref(3, 4), 0, 5)}, false},
		{"nothing there, of no Ref", []api.Found{at(ref(0, 0), 0, 5)}, false},
		{"a Ref that may not be", []api.Found{at(ref(61, 6), 2, 1)}, false},
		{"a Ref below 0", []api.Found{at(ref(-1, -1), 2, 1)}, false},
		{"a block behind the chip", []api.Found{at(ref(1, 1), 6, 0)}, false},
		{"a block below 0", []api.Found{at(ref(1, 1), -1, 0)}, false},
		{"a page behind the block", []api.Found{at(ref(1, 1), 0, 8)}, false},
		{"a page below 0", []api.Found{at(ref(1, 1), 0, -1)}, false},
		{"a spot far away", []api.Found{at(ref(1, 1), math.MaxInt, math.MinInt)}, false},
	}
}

// P10.1: live, each spot of which is read once; what is handed in is left as it is, and not kept.
func TestOpenLive(t *testing.T) {
	for _, x := range rows() {
		c := laid(t)
		before := c.Bill().Reads
		behind := at(ref(9, 9), 9, 9)
		mine := append(slices.Clone(x.live), behind)
		p, err := pool.Open(c, six, 0, mine[:len(x.live)], 7)
		if !slices.Equal(mine, append(slices.Clone(x.live), behind)) {
			t.Errorf("%s: what was handed in is %v", x.name, mine)
		}
		if !x.ok {
			if p != nil || err != api.ErrArg {
				t.Errorf("%s: %v, %d", x.name, p != nil, err)
			}
			continue
		}
		if p == nil || err != api.OK {
			t.Errorf("%s: %d", x.name, err)
			continue
		}
		if n := c.Bill().Reads - before; n != len(x.live) {
			t.Errorf("%s: %d were read", x.name, n)
		}
		clear(mine)
		want := slices.SortedFunc(slices.Values(x.live), func(a, b api.Found) int {
			return a.Spot.Block*8 + a.Spot.Page - b.Spot.Block*8 - b.Spot.Page
		})
		tells(t, x.name, p, want, nil, 7)
		for _, f := range want {
			reads(t, x.name, p, f.Ref, text(f.Ref))
		}
		if r := put(t, p, 5, "x"); r != ref(5, 8) {
			t.Errorf("%s: the next one is %v", x.name, r)
		}
	}
}

// P10.1, R4: ErrDown is told last, behind a wrong sheet too, and nothing is read.
func TestOpenDown(t *testing.T) {
	for _, x := range rows() {
		c := laid(t)
		lose(t, c, 5)
		before := chips(c)
		want := api.ErrArg
		if x.ok {
			want = api.ErrDown
		}
		if p, err := pool.Open(c, six, 0, x.live, 7); p != nil || err != want {
			t.Errorf("%s: %v, %d, not %d", x.name, p != nil, err, want)
		}
		if chips(c) != before {
			t.Errorf("%s: the chip is another", x.name)
		}
		c.Power()
		if p, err := pool.Open(c, six, 0, x.live, 7); (p != nil) != x.ok || (err == api.OK) != x.ok {
			t.Errorf("%s: with power: %v, %d", x.name, p != nil, err)
		}
	}
	c := made(six)
	lose(t, c, 5)
	for _, x := range []struct {
		name     string
		g        api.Config
		bad, seq int
		want     api.Errno
	}{
		{"as it should be", six, 0, 0, api.ErrDown},
		{"no config", api.Config{}, 0, 0, api.ErrArg},
		{"bad that is not", six, 1, 0, api.ErrArg},
		{"seq below 0", six, 0, -1, api.ErrArg},
	} {
		if p, err := pool.Open(c, x.g, x.bad, nil, x.seq); p != nil || err != x.want {
			t.Errorf("%s: %v, %d, not %d", x.name, p != nil, err, x.want)
		}
	}
}

// P10.1: b is counted from bad on; Open lets more than Spare go by.
func TestOpenBads(t *testing.T) {
	for _, x := range []struct {
		bad  []int
		from int
		b    int
		over bool
	}{
		{nil, 0, 0, false},
		{[]int{1}, 1, 0, false},
		{[]int{1}, 0, 1, false},
		{[]int{1, 4}, 1, 1, false},
		{[]int{1, 4}, 0, 2, true},
		{[]int{1, 3, 4}, 1, 2, true},
	} {
		name := fmt.Sprint(x.bad, x.from)
		c := made(six, x.bad...)
		p := opened(t, c, six, x.from, nil, 0)
		bads(t, name, p, x.b, x.over)
		before := all(c, p)
		_, err := p.Put(1, []byte("x"))
		if (err == api.ErrRead) != x.over || (err == api.OK) == x.over {
			t.Errorf("%s: Put tells %d", name, err)
		}
		if x.over && all(c, p) != before {
			t.Errorf("%s: something has changed", name)
		}
	}
}

// P10.2, Put: the page and the data, each from both sides of its bound; what is refused changes nothing.
func TestPutBounds(t *testing.T) {
	// Page 1 and seq 1 take a byte each, the length two, and the end one.
	longest := strings.Repeat("x", api.MaxSheet-5)
	for _, x := range []struct {
		name string
		page int
		data string
		want api.Errno
	}{
		{"the first page", 1, "x", api.OK},
		{"the last page", api.MaxNodes * api.MaxFile, "x", api.OK},
		{"a page behind", api.MaxNodes*api.MaxFile + 1, "x", api.ErrArg},
		{"the root", 0, "x", api.ErrArg},
		{"a page below 0", -1, "x", api.ErrArg},
		{"a page far below 0", math.MinInt, "x", api.ErrArg},
		{"a page far above", math.MaxInt, "x", api.ErrArg},
		{"no data", 1, "", api.OK},
		{"the longest data", 1, longest, api.OK},
		{"longer data", 1, longest + "x", api.ErrArg},
		{"far longer data", 1, strings.Repeat("x", 1<<20), api.ErrArg},
	} {
		c := made(six)
		p := opened(t, c, six, 0, nil, 0)
		before := all(c, p)
		r, err := p.Put(x.page, []byte(x.data))
		if err != x.want {
			t.Errorf("%s: %d, not %d", x.name, err, x.want)
			continue
		}
		if err != api.OK {
			if r != (api.Ref{}) || all(c, p) != before {
				t.Errorf("%s: %v, %s", x.name, r, all(c, p))
			}
			continue
		}
		if r != ref(x.page, 1) {
			t.Errorf("%s: %v", x.name, r)
		}
		tells(t, x.name, p, nil, []api.Ref{r}, 1)
		reads(t, x.name, p, r, x.data)
	}
}

// P10.2: no Seq is above MaxSeq, of a Put or of a Seal.
func TestLastSeq(t *testing.T) {
	c := made(six)
	p := opened(t, c, six, 0, nil, api.MaxSeq-2)
	r := put(t, p, 1, "x")
	if r != ref(1, api.MaxSeq-1) {
		t.Errorf("%v", r)
	}
	seal(t, p, r)
	root := ref(0, api.MaxSeq)
	reads(t, "the last one", p, root, "root")
	before := all(c, p)
	if r, err := p.Put(1, []byte("x")); r != (api.Ref{}) || err != api.ErrArg {
		t.Errorf("Put: %v, %d", r, err)
	}
	if err := p.Seal([]byte("root"), []api.Ref{r}); err != api.ErrArg {
		t.Errorf("Seal: %d", err)
	}
	if all(c, p) != before {
		t.Error("something has changed")
	}
}

// P10.2, Put: so many are live and new at most.
func TestPutState(t *testing.T) {
	c := made(one)
	p := opened(t, c, one, 0, nil, 0)
	l := puts(t, p, 7)
	before := all(c, p)
	if r, err := p.Put(1, []byte("x")); r != (api.Ref{}) || err != api.ErrState {
		t.Errorf("an eighth one: %v, %d", r, err)
	}
	if all(c, p) != before {
		t.Error("something has changed")
	}
	tells(t, "seven", p, nil, l, 7)
	// A page and the root are live: so there may be five new ones.
	seal(t, p, l[2])
	puts(t, p, 5)
	if _, err := p.Put(1, []byte("x")); err != api.ErrState {
		t.Errorf("a sixth one: %d", err)
	}
	p.Undo()
	puts(t, p, 5)
	// The same page again, so that it is not the pages that are counted.
	p.Undo()
	for range 5 {
		put(t, p, 1, "x")
	}
	if _, err := p.Put(1, []byte("x")); err != api.ErrState {
		t.Errorf("a sixth one of a page: %d", err)
	}
	// A Seal is not held to that bound.
	seal(t, p, l[2])
}

// P10.2, Put: what is live alone may be as many, or more, where Open was told so.
func TestPutStateOfLive(t *testing.T) {
	for n := 5; n < 10; n++ {
		c := made(one)
		var l []api.Found
		for i := range n {
			l = append(l, lay(t, c, i/8, ref(i+1, 1))...)
		}
		p := opened(t, c, one, 0, l, 1)
		want := api.OK
		if n >= 7 {
			want = api.ErrState
		}
		if _, err := p.Put(1, []byte("x")); err != want {
			t.Errorf("%d live: %d, not %d", n, err, want)
		}
		if err := p.Seal(nil, []api.Ref{l[0].Ref}); err != api.OK {
			t.Errorf("%d live: Seal %d", n, err)
		}
		if _, err := p.Put(1, []byte("x")); err != api.OK {
			t.Errorf("%d were live: %d", n, err)
		}
	}
}

// R4: of several errors of a Put the first one of its sentence.
func TestPutOrder(t *testing.T) {
	ask := func(name string, p *pool.Pool, page int, want api.Errno) {
		t.Helper()
		if r, err := p.Put(page, []byte("x")); r != (api.Ref{}) || err != want {
			t.Errorf("%s: %v, %d, not %d", name, r, err, want)
		}
	}
	c := made(one)
	p := opened(t, c, one, 0, nil, 0)
	l := puts(t, p, 7)
	spoil(t, c, 4)
	spoil(t, c, 5)
	ask("full, over, a wrong page", p, 0, api.ErrArg)
	ask("full, over", p, 1, api.ErrState)
	lose(t, c, 3)
	ask("full, over, down, a wrong page", p, 61, api.ErrArg)
	ask("full, over, down", p, 1, api.ErrState)
	tells(t, "full", p, nil, l, 7)
	p.Undo()
	ask("over, down, a wrong page", p, -1, api.ErrArg)
	ask("over, down", p, 1, api.ErrDown)
	c.Power()
	p = opened(t, c, one, 0, nil, 7)
	ask("over, a wrong page", p, 0, api.ErrArg)
	ask("over", p, 1, api.ErrRead)
	tells(t, "over", p, nil, nil, 7)
}

// P10.2: a Put that is refused ahead of its beginning leaves what is new, and the Seq.
func TestPutNotBegun(t *testing.T) {
	for _, x := range []struct {
		name string
		do   func(c *chip.Chip)
		want api.Errno
	}{
		{"down", func(c *chip.Chip) { lose(t, c, 5) }, api.ErrDown},
		{"over", func(c *chip.Chip) { spoil(t, c, 4); spoil(t, c, 5) }, api.ErrRead},
	} {
		c := made(six)
		p := opened(t, c, six, 0, nil, 0)
		l := puts(t, p, 2)
		x.do(c)
		before := all(c, p)
		if r, err := p.Put(1, []byte("x")); r != (api.Ref{}) || err != x.want {
			t.Errorf("%s: %v, %d", x.name, r, err)
		}
		if all(c, p) != before {
			t.Errorf("%s: something has changed", x.name)
		}
		tells(t, x.name, p, nil, l, 2)
		if err := p.Seal(nil, l[:1]); err != x.want {
			t.Errorf("%s: Seal %d", x.name, err)
		}
		tells(t, x.name+", sealed", p, nil, nil, 2)
	}
}

// P10.2: one that was begun and failed takes its Seq with it, and all that is new; live stays.
func TestBegun(t *testing.T) {
	for _, x := range []struct {
		name string
		do   func(c *chip.Chip)
		want api.Errno
	}{
		{"down", func(c *chip.Chip) { c.Cut(0, 0) }, api.ErrDown},
		{"down, and it stands", func(c *chip.Chip) { c.Cut(0, api.MaxSheet) }, api.ErrDown},
		{"over", func(c *chip.Chip) { spoil(t, c, 5); c.Fail(0) }, api.ErrRead},
	} {
		for _, sealed := range []bool{false, true} {
			c := made(six)
			p := opened(t, c, six, 0, nil, 0)
			old := put(t, p, 1, "old")
			seal(t, p, old)
			live := p.Live()
			l := puts(t, p, 2)
			x.do(c)
			var err api.Errno
			var r api.Ref
			if sealed {
				err = p.Seal([]byte("root"), l)
			} else {
				r, err = p.Put(1, []byte("x"))
			}
			if err != x.want || r != (api.Ref{}) {
				t.Errorf("%s: %v, %d", x.name, r, err)
			}
			tells(t, x.name, p, live, nil, 5)
			gone(t, x.name, p, append(l, ref(1, 5), ref(0, 5))...)
			if x.want == api.ErrRead {
				reads(t, x.name, p, old, "old")
				reads(t, x.name, p, ref(0, 2), "root")
			}
		}
	}
}

// P10.2: Puts and Seals count on together; what is new is told by Page and Seq.
func TestNewInOrder(t *testing.T) {
	p := opened(t, made(six), six, 0, nil, 40)
	for _, page := range []int{9, 2, 60, 2, 1, 9} {
		put(t, p, page, "x")
	}
	tells(t, "six", p, nil, []api.Ref{ref(1, 45), ref(2, 42), ref(2, 44), ref(9, 41), ref(9, 46), ref(60, 43)}, 46)
	seal(t, p, ref(2, 42))
	tells(t, "sealed", p, []api.Found{at(ref(2, 42), 0, 1), at(ref(0, 47), 0, 6)}, nil, 47)
	if r := put(t, p, 2, "y"); r != ref(2, 48) {
		t.Errorf("%v", r)
	}
}

// P10.3, New: of a page by Seq, also where a later one stands in a lower block.
func TestNewOfOnePage(t *testing.T) {
	c := made(six)
	for b := range 5 {
		warm(t, c, b, 1)
	}
	p := opened(t, c, six, 0, nil, 0)
	var want []api.Ref
	for i := range 16 {
		want = append(want, ref(2, i+1))
		put(t, p, 2, "x")
		tells(t, fmt.Sprint(i), p, nil, want, i+1)
	}
}

// P10.2, Seal: what is named is live, with the root, and nothing else is.
func TestSeal(t *testing.T) {
	p := opened(t, made(six), six, 0, nil, 0)
	l := puts(t, p, 3)
	seal(t, p, l[2], l[0])
	tells(t, "the first", p, []api.Found{at(l[0], 0, 0), at(l[2], 0, 2), at(ref(0, 4), 0, 3)}, nil, 4)
	gone(t, "the first", p, l[1], ref(0, 1), ref(0, 5))
	reads(t, "the first", p, l[0], "new")
	reads(t, "the first", p, ref(0, 4), "root")
	again := put(t, p, 1, "again")
	reads(t, "ahead of the second", p, l[0], "new")
	reads(t, "ahead of the second", p, again, "again")
	seal(t, p, again, l[2])
	tells(t, "the second", p, []api.Found{at(l[2], 0, 2), at(again, 0, 4), at(ref(0, 6), 0, 5)}, nil, 6)
	gone(t, "the second", p, l[0], ref(0, 4))
	// Of a page that is live and new, either may be named.
	put(t, p, 1, "left out")
	seal(t, p, again)
	tells(t, "the third", p, []api.Found{at(again, 0, 4), at(ref(0, 8), 0, 7)}, nil, 8)
	if err := p.Seal(nil, nil); err != api.OK {
		t.Errorf("%d", err)
	}
	root := ref(0, 9)
	tells(t, "of nothing", p, []api.Found{at(root, p.Live()[0].Spot.Block, 0)}, nil, 9)
	reads(t, "of nothing", p, root, "")
}

// P10.2, Seal: the data and live, each from both sides of its bound; beside an error nothing is new, and live stays.
func TestSealBounds(t *testing.T) {
	longest := strings.Repeat("x", api.MaxSheet-5)
	var eleven []api.Ref
	for i := range 11 {
		eleven = append(eleven, ref(i+1, i+3))
	}
	for _, x := range []struct {
		name string
		data string
		live []api.Ref
		want api.Errno
	}{
		{"none", "", nil, api.OK},
		{"as many as there may be", "x", eleven[:10], api.OK},
		{"one more", "x", eleven, api.ErrArg},
		{"one of live", "x", []api.Ref{ref(20, 1)}, api.OK},
		{"of live and of new", "x", []api.Ref{ref(11, 13), ref(20, 1), ref(1, 3)}, api.OK},
		{"the longest data", longest, eleven[:1], api.OK},
		{"longer data", longest + "x", eleven[:1], api.ErrArg},
		{"what was never", "x", []api.Ref{ref(1, 3), ref(12, 14)}, api.ErrArg},
		{"another writing", "x", []api.Ref{ref(1, 4)}, api.ErrArg},
		{"the writing to come", "x", []api.Ref{ref(1, 14)}, api.ErrArg},
		{"the root", "x", []api.Ref{ref(0, 2)}, api.ErrArg},
		{"the root to come", "x", []api.Ref{ref(0, 14)}, api.ErrArg},
		{"nothing of nothing", "x", []api.Ref{{}}, api.ErrArg},
		{"a Ref twice", "x", []api.Ref{ref(1, 3), ref(2, 4), ref(1, 3)}, api.ErrArg},
		{"below 0", "x", []api.Ref{ref(-1, -1)}, api.ErrArg},
		{"far away", "x", []api.Ref{ref(math.MinInt, math.MaxInt)}, api.ErrArg},
		{"far too many", "x", make([]api.Ref, 1<<16), api.ErrArg},
	} {
		c := made(six)
		p := opened(t, c, six, 0, nil, 0)
		seal(t, p, put(t, p, 20, "old"))
		before, live := chips(c), p.Live()
		for i, r := range eleven {
			if got := put(t, p, i+1, text(r)); got != r {
				t.Fatalf("%v, not %v", got, r)
			}
		}
		written := chips(c)
		mine := append(slices.Clone(x.live), ref(5, 7))
		err := p.Seal([]byte(x.data), mine[:len(x.live)])
		if err != x.want || !slices.Equal(mine, append(slices.Clone(x.live), ref(5, 7))) {
			t.Errorf("%s: %d, not %d; %v", x.name, err, x.want, mine)
			continue
		}
		if err != api.OK {
			tells(t, x.name, p, live, nil, 13)
			if chips(c) != written || before == written {
				t.Errorf("%s: the chip is another", x.name)
			}
			gone(t, x.name, p, eleven...)
			reads(t, x.name, p, ref(20, 1), "old")
			continue
		}
		if n := len(p.Live()); n != len(x.live)+1 || len(p.New()) > 0 || p.Seq() != 14 {
			t.Errorf("%s: %d are live, %v, %d", x.name, n, p.New(), p.Seq())
		}
		reads(t, x.name, p, ref(0, 14), x.data)
		for _, r := range x.live {
			if r.Page != 20 {
				reads(t, x.name, p, r, text(r))
			}
		}
	}
}

// P10.2, Seal: of two writings of a page, both there, one may be named.
func TestSealPageTwice(t *testing.T) {
	p := opened(t, made(six), six, 0, nil, 0)
	a := put(t, p, 3, "a")
	seal(t, p, a)
	b, c := put(t, p, 3, "b"), put(t, p, 3, "c")
	for i, l := range [][]api.Ref{{a, b}, {b, c}} {
		if err := p.Seal(nil, l); err != api.ErrArg {
			t.Errorf("%v: %d", l, err)
		}
		tells(t, "twice", p, []api.Found{at(a, 0, 0), at(ref(0, 2), 0, 1)}, nil, 4+2*i)
		b, c = put(t, p, 3, "b"), put(t, p, 3, "c")
	}
	seal(t, p, c)
	reads(t, "the last", p, c, "c")
	gone(t, "the others", p, a, b)
}

// R4: of several errors of a Seal, and of a Read, the first one of its sentence.
func TestSealReadOrder(t *testing.T) {
	ask := func(name string, p *pool.Pool, l []api.Ref, want api.Errno) {
		t.Helper()
		if err := p.Seal(nil, l); err != want {
			t.Errorf("%s: %d, not %d", name, err, want)
		}
	}
	c := made(six)
	p := opened(t, c, six, 0, nil, 0)
	a := put(t, p, 1, "a")
	seal(t, p, a)
	spoil(t, c, 4)
	spoil(t, c, 5)
	ask("over, a wrong Ref", p, []api.Ref{ref(1, 9)}, api.ErrArg)
	ask("over", p, []api.Ref{a}, api.ErrRead)
	reads(t, "over", p, a, "a")
	lose(t, c, 3)
	ask("over, down, a wrong Ref", p, []api.Ref{ref(1, 9)}, api.ErrArg)
	gone(t, "down", p, ref(1, 9))
	ask("over, down", p, []api.Ref{a}, api.ErrDown)
	gone(t, "it was down", p, ref(1, 9))
	if b, err := p.Read(a); len(b) > 0 || err != api.ErrDown {
		t.Errorf("down: %q, %d", b, err)
	}
	tells(t, "down", p, []api.Found{at(a, 0, 0), at(ref(0, 2), 0, 1)}, nil, 2)
}

// P10.2: who has met ErrDown tells it for good, and leaves the chip alone; another pool does not.
func TestDownForGood(t *testing.T) {
	for _, x := range []struct {
		name string
		meet func(c *chip.Chip, p *pool.Pool, r api.Ref) api.Errno
	}{
		{"a Put at which it goes", func(c *chip.Chip, p *pool.Pool, r api.Ref) api.Errno {
			c.Cut(0, 3)
			_, err := p.Put(2, []byte("x"))
			return err
		}},
		{"a Seal at which it goes", func(c *chip.Chip, p *pool.Pool, r api.Ref) api.Errno {
			c.Cut(0, 3)
			return p.Seal(nil, nil)
		}},
		{"a Put behind it", func(c *chip.Chip, p *pool.Pool, r api.Ref) api.Errno {
			lose(t, c, 5)
			_, err := p.Put(2, []byte("x"))
			return err
		}},
		{"a Seal behind it", func(c *chip.Chip, p *pool.Pool, r api.Ref) api.Errno {
			lose(t, c, 5)
			return p.Seal(nil, nil)
		}},
		{"a Read behind it", func(c *chip.Chip, p *pool.Pool, r api.Ref) api.Errno {
			lose(t, c, 5)
			_, err := p.Read(r)
			return err
		}},
	} {
		c := made(six)
		p := opened(t, c, six, 0, nil, 0)
		r := put(t, p, 1, "old")
		seal(t, p, r)
		live := p.Live()
		if err := x.meet(c, p, r); err != api.ErrDown {
			t.Errorf("%s: %d", x.name, err)
		}
		c.Power()
		before := all(c, p)
		for range 2 {
			if r, err := p.Put(2, []byte("x")); r != (api.Ref{}) || err != api.ErrDown {
				t.Errorf("%s: Put %v, %d", x.name, r, err)
			}
			if err := p.Seal([]byte("root"), []api.Ref{r}); err != api.ErrDown {
				t.Errorf("%s: Seal %d", x.name, err)
			}
			if b, err := p.Read(r); len(b) > 0 || err != api.ErrDown {
				t.Errorf("%s: Read %q, %d", x.name, b, err)
			}
		}
		if all(c, p) != before {
			t.Errorf("%s: something has changed", x.name)
		}
		other := opened(t, c, six, 0, live, 9)
		reads(t, x.name, other, r, "old")
		seal(t, other, r, put(t, other, 2, "x"))
		if err := p.Seal(nil, nil); err != api.ErrDown {
			t.Errorf("%s: Seal %d", x.name, err)
		}
	}
}

// P10.2, Undo: nothing is new any more; the Seq goes on.
func TestUndo(t *testing.T) {
	p := opened(t, made(six), six, 0, nil, 0)
	p.Undo()
	a := put(t, p, 1, "a")
	seal(t, p, a)
	live := p.Live()
	l := puts(t, p, 3)
	p.Undo()
	p.Undo()
	tells(t, "undone", p, live, nil, 5)
	gone(t, "undone", p, l...)
	reads(t, "undone", p, a, "a")
	if err := p.Seal(nil, l[:1]); err != api.ErrArg {
		t.Errorf("%d", err)
	}
	if r := put(t, p, 1, "b"); r != ref(1, 6) {
		t.Errorf("%v", r)
	}
}

// P10.3, Read: what is neither live nor new is none, whatever it is.
func TestReadNone(t *testing.T) {
	c := made(six)
	p := opened(t, c, six, 0, nil, 0)
	a := put(t, p, 1, "a")
	b := put(t, p, 2, "b")
	seal(t, p, a)
	before := c.Bill()
	gone(t, "none", p, b, ref(1, 2), ref(2, 1), ref(0, 0), ref(0, 1), ref(-1, -1), ref(math.MinInt, math.MaxInt))
	if c.Bill() != before {
		t.Error("the chip was asked")
	}
	if _, err := p.Read(a); err != api.OK || c.Bill().Reads != before.Reads+1 {
		t.Errorf("%d, %v", err, c.Bill())
	}
}

// P10.3, Bads and Over: Spare from both sides; where it is Over, what is live and new is read all the same.
func TestOver(t *testing.T) {
	for spare := range 3 {
		g := api.Config{Blocks: 9, Pages: 8, Spare: spare, Data: 10, Wear: 50}
		c := made(g, 8)
		p := opened(t, c, g, 1, nil, 0)
		a := put(t, p, 1, "a")
		seal(t, p, a)
		b := put(t, p, 2, "b")
		for i := range spare + 2 {
			name := fmt.Sprint(spare, " spare, ", i)
			bads(t, name, p, i, i > spare)
			reads(t, name, p, a, "a")
			reads(t, name, p, b, "b")
			spoil(t, c, 7-i)
		}
	}
}

// R2: what is handed in is not kept, and what is told is the caller's own.
func TestMemory(t *testing.T) {
	c := made(six)
	p := opened(t, c, six, 0, nil, 0)
	data := []byte("datax")
	a, err := p.Put(1, data[:4])
	if err != api.OK || string(data) != "datax" {
		t.Errorf("%d, %q", err, data)
	}
	clear(data)
	reads(t, "what was put", p, a, "data")
	got, _ := p.Read(a)
	clear(got[:cap(got)])
	reads(t, "what was told", p, a, "data")
	b := put(t, p, 2, "b")
	clear(p.New())
	tells(t, "New", p, nil, []api.Ref{a, b}, 2)
	root, live := []byte("rootx"), []api.Ref{b, a, ref(7, 7)}
	if err := p.Seal(root[:4], live[:2]); err != api.OK || string(root) != "rootx" || !slices.Equal(live, []api.Ref{b, a, ref(7, 7)}) {
		t.Errorf("%d, %q, %v", err, root, live)
	}
	clear(root)
	clear(live)
	clear(p.Live())
	tells(t, "Live", p, []api.Found{at(a, 0, 0), at(b, 0, 1), at(ref(0, 3), 0, 2)}, nil, 3)
	reads(t, "the root", p, ref(0, 3), "root")
}

// R3: where there is no pool, all is zero (ErrArg); so it is of one that was not opened.
func TestNoPool(t *testing.T) {
	for name, p := range map[string]*pool.Pool{"nil": nil, "not opened": {}} {
		for range 2 {
			if r, err := p.Put(1, []byte("x")); r != (api.Ref{}) || err != api.ErrArg {
				t.Errorf("%s: Put %v, %d", name, r, err)
			}
			if err := p.Seal([]byte("x"), []api.Ref{ref(1, 1)}); err != api.ErrArg {
				t.Errorf("%s: Seal %d", name, err)
			}
			if err := p.Seal(nil, nil); err != api.ErrArg {
				t.Errorf("%s: Seal of nothing %d", name, err)
			}
			if b, err := p.Read(ref(1, 1)); len(b) > 0 || err != api.ErrArg {
				t.Errorf("%s: Read %q, %d", name, b, err)
			}
			p.Undo()
			tells(t, name, p, nil, nil, 0)
			bads(t, name, p, 0, false)
		}
	}
}
