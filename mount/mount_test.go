package mount_test

import (
	"fmt"
	"math"
	"slices"
	"strconv"
	"strings"
	"testing"

	"potsherd/api"
	"potsherd/chip"
	"potsherd/mount"
	"potsherd/sheet"
)

func ref(page, seq int) api.Ref     { return api.Ref{Page: page, Seq: seq} }
func spot(block, page int) api.Spot { return api.Spot{Block: block, Page: page} }

// pair is two numbers with a point between: "3.7".
func pair(t *testing.T, s string) (int, int) {
	t.Helper()
	a, b, _ := strings.Cut(s, ".")
	x, err := strconv.Atoi(a)
	y, also := strconv.Atoi(b)
	if err != nil || also != nil {
		t.Fatalf("no pair: %q", s)
	}
	return x, y
}

// refs is a text of Refs: "0.7 3.2" is the root of Seq 7, and page 3 of Seq 2.
func refs(t *testing.T, s string) []api.Ref {
	t.Helper()
	var l []api.Ref
	for _, x := range strings.Fields(s) {
		l = append(l, ref(pair(t, x)))
	}
	return l
}

// told is a text of what stands where: "3.7@0.2" is page 3, Seq 7, on page 2 of block 0.
func told(l []api.Found) string {
	var s []string
	for _, f := range l {
		s = append(s, fmt.Sprintf("%d.%d@%d.%d", f.Ref.Page, f.Ref.Seq, f.Spot.Block, f.Spot.Page))
	}
	return strings.Join(s, " ")
}

// raw is a sheet as it stands on a page.
func raw(t *testing.T, r api.Ref, data string) []byte {
	t.Helper()
	b, err := sheet.Bytes(api.Sheet{Page: r.Page, Seq: r.Seq, Data: []byte(data)})
	if err != api.OK {
		t.Fatalf("no sheet: %v", r)
	}
	return b
}

// program puts bytes on the next page of a block.
func program(t *testing.T, c *chip.Chip, block int, b []byte) {
	t.Helper()
	if err := c.Program(spot(block, c.Block(block).Next), b); err != api.OK {
		t.Fatalf("block %d: not programmed: %d", block, err)
	}
}

// lay puts pages on a block, behind what is there: "x" is no sheet; the others are sheets, whose data says where they stand.
func lay(t *testing.T, c *chip.Chip, block int, text string) {
	t.Helper()
	for _, s := range strings.Fields(text) {
		b := []byte("no sheet")
		if s != "x" {
			b = raw(t, ref(pair(t, s)), fmt.Sprintf("%d.%d", block, c.Block(block).Next))
		}
		program(t, c, block, b)
	}
}

// laid is a chip with so many pages in a block; a stroke parts the blocks' texts.
func laid(t *testing.T, pages int, text string) *chip.Chip {
	t.Helper()
	blocks := strings.Split(text, "/")
	c := chip.New(len(blocks), pages, nil)
	for i, s := range blocks {
		lay(t, c, i, s)
	}
	return c
}

// scanned is a scan that is through.
func scanned(t *testing.T, c *chip.Chip) *mount.Scan {
	t.Helper()
	s := mount.New(c)
	if ok, err := s.Step(math.MaxInt); !ok || err != api.OK {
		t.Fatalf("not through: %v, %d", ok, err)
	}
	return s
}

// stand is each sheet that stands on a chip, by what the chip shows of itself.
func stand(c *chip.Chip) []api.Found {
	var l []api.Found
	for i, b := range c.Blocks() {
		for j, page := range b.Pages {
			if s, err := sheet.Parse(page); err == api.OK {
				l = append(l, api.Found{Ref: ref(s.Page, s.Seq), Spot: spot(i, j)})
			}
		}
	}
	return l
}

// greatest is the greatest Seq of these, and the first root of the greatest one.
func greatest(c *chip.Chip, l []api.Found) (seq int, root api.Sheet, ok bool) {
	for _, f := range l {
		seq = max(seq, f.Ref.Seq)
		if f.Ref.Page == 0 && f.Ref.Seq > root.Seq {
			root, _ = sheet.Parse(c.Block(f.Spot.Block).Pages[f.Spot.Page])
			ok = true
		}
	}
	return seq, root, ok
}

func same(a, b api.Sheet) bool {
	return a.Page == b.Page && a.Seq == b.Seq && string(a.Data) == string(b.Data)
}

// holds: the scan is through, and tells what stood there, as it is in l.
func holds(t *testing.T, name string, s *mount.Scan, c *chip.Chip, l []api.Found) {
	t.Helper()
	before := c.Bill()
	seq, root, ok := greatest(c, l)
	for range 2 {
		if got := s.Found(); !slices.Equal(got, l) {
			t.Errorf("%s: found %s, not %s", name, told(got), told(l))
		}
		if got, there := s.Root(); !same(got, root) || there != ok {
			t.Errorf("%s: root %v, %v, not %v, %v", name, got, there, root, ok)
		}
		if got := s.Seq(); got != seq {
			t.Errorf("%s: Seq %d, not %d", name, got, seq)
		}
		pages := map[int]int{}
		var live []api.Ref
		for _, f := range l {
			if pages[f.Ref.Page]++; pages[f.Ref.Page] == 1 {
				live = append(live, f.Ref)
			}
		}
		if got, err := s.Pick(live); err != api.OK || len(got) != len(live) {
			t.Errorf("%s: Pick %s, %d", name, told(got), err)
		}
	}
	if got := c.Bill(); got != before {
		t.Errorf("%s: it cost %v, of %v", name, got, before)
	}
}

// silent: the scan is not through, and tells nothing.
func silent(t *testing.T, name string, s *mount.Scan) {
	t.Helper()
	if l := s.Found(); len(l) > 0 {
		t.Errorf("%s: found %s", name, told(l))
	}
	if x, ok := s.Root(); !same(x, api.Sheet{}) || ok {
		t.Errorf("%s: root %v, %v", name, x, ok)
	}
	if n := s.Seq(); n != 0 {
		t.Errorf("%s: Seq %d", name, n)
	}
	for _, live := range [][]api.Ref{nil, {ref(0, 1)}, {ref(1, 1)}, {ref(1, 1), ref(1, 1)}, {ref(1, 1), ref(1, 2)}, {ref(-1, -1)}} {
		if l, err := s.Pick(live); len(l) > 0 || err != api.OK {
			t.Errorf("%s: Pick(%v): %s, %d", name, live, told(l), err)
		}
	}
}

// step is one that tells no error.
func step(t *testing.T, name string, s *mount.Scan, n int, want bool) {
	t.Helper()
	if ok, err := s.Step(n); ok != want || err != api.OK {
		t.Fatalf("%s: Step(%d): %v, %d, not %v", name, n, ok, err, want)
	}
}

// kind is a chip that was treated in some way, and has its power.
type kind struct {
	name string
	c    *chip.Chip
}

// cut lets the power go at the next program or erase.
func cut(c *chip.Chip, keep int, do func()) {
	c.Cut(0, keep)
	do()
	c.Power()
}

// kinds are chips of all kinds of blocks: clean, begun, full, bad, torn.
func kinds(t *testing.T) []kind {
	t.Helper()
	const some = "0.1 1.2 x / 2.3 / 1.4 2.3 0.5 / "
	l := []kind{
		{"new", chip.New(4, 3, nil)},
		{"one page", chip.New(1, 1, nil)},
		{"one page, a root", laid(t, 1, "0.1")},
		{"one block", laid(t, 4, "1.1 x 0.2")},
		{"some", laid(t, 3, some)},
		{"no sheet", laid(t, 3, "x / x x / x x x")},
		{"the first is clean", laid(t, 2, " / 1.1 / 0.2 x")},
		{"the last is begun", laid(t, 2, "0.1 1.1 / / 3.1")},
		{"full", laid(t, 2, "0.1 0.2 / 1.3 2.3 / 1.4 2.4")},
		{"bad from the beginning", chip.New(3, 2, []int{0, 2})},
	}
	add := func(name string, do func(c *chip.Chip)) {
		c := laid(t, 3, some)
		do(c)
		l = append(l, kind{name, c})
	}
	add("bad from a program", func(c *chip.Chip) {
		c.Fail(0)
		c.Program(spot(1, 1), raw(t, ref(5, 9), "half of it"))
	})
	add("bad from the first program", func(c *chip.Chip) {
		c.Fail(0)
		c.Program(spot(3, 0), raw(t, ref(5, 9), "half of it"))
	})
	add("bad from an erase", func(c *chip.Chip) {
		c.Worn(0)
		c.Erase(2)
	})
	add("bad from an erase, clean", func(c *chip.Chip) {
		c.Worn(0)
		c.Erase(3)
	})
	add("erased", func(c *chip.Chip) { c.Erase(0) })
	for keep := range 4 {
		add(fmt.Sprint("a torn erase: ", keep), func(c *chip.Chip) { cut(c, keep, func() { c.Erase(2) }) })
		add(fmt.Sprint("a torn erase, clean: ", keep), func(c *chip.Chip) { cut(c, keep, func() { c.Erase(3) }) })
	}
	b := raw(t, ref(0, 9), "a newer root")
	for keep := range len(b) + 2 {
		add(fmt.Sprint("a torn program: ", keep), func(c *chip.Chip) { cut(c, keep, func() { c.Program(spot(3, 0), b) }) })
	}
	return l
}

// turns is, of page upon page, block by block, how many reads it costs.
func turns(c *chip.Chip) []int {
	var l []int
	for _, b := range c.Blocks() {
		n := 1
		if b.Next == 0 {
			n = 0
		}
		l = append(l, slices.Repeat([]int{n}, len(b.Pages))...)
	}
	return l
}

func sum(l []int) int {
	n := 0
	for _, x := range l {
		n += x
	}
	return n
}

// The example.
func TestExample(t *testing.T) {
	for _, all := range []int{6 * 8, 6*8 + 1, math.MaxInt} {
		s := mount.New(chip.New(6, 8, nil))
		step(t, "a new chip", s, all, true)
		if x, ok := s.Root(); ok || !same(x, api.Sheet{}) {
			t.Errorf("root %v, %v", x, ok)
		}
	}
}

// P11.1, New: of no chip none; of a chip nothing is read, and nothing is found yet.
func TestNew(t *testing.T) {
	if mount.New(nil) != nil {
		t.Error("of no chip")
	}
	for _, k := range kinds(t) {
		before := k.c.Bill()
		s := mount.New(k.c)
		if s == nil {
			t.Fatalf("%s: none", k.name)
		}
		silent(t, k.name, s)
		if got := k.c.Bill(); got != before {
			t.Errorf("%s: it cost %v, of %v", k.name, got, before)
		}
	}
}

// P11.1, P11.2: steps of each size, over chips of all kinds: what each reads, when all is through, what is told then, and nothing ahead of that.
func TestSteps(t *testing.T) {
	for _, k := range kinds(t) {
		want, l := turns(k.c), stand(k.c)
		for n := 1; n <= len(want)+2; n++ {
			name := fmt.Sprintf("%s, by %d", k.name, n)
			s := mount.New(k.c)
			for from := 0; from < len(want); from += n {
				silent(t, name, s)
				before := k.c.Bill()
				to := min(from+n, len(want))
				step(t, name, s, n, to == len(want))
				before.Reads += sum(want[from:to])
				if got := k.c.Bill(); got != before {
					t.Errorf("%s: from %d on it has cost %v, not %v", name, from, got, before)
				}
			}
			holds(t, name, s, k.c, l)
		}
	}
}

// P11.1: steps of sizes that differ, in all ways that six pages may be gone through.
func TestStepsThatDiffer(t *testing.T) {
	c := laid(t, 3, "0.1 x 1.2 / 2.3")
	want, l := turns(c), stand(c)
	for ways := range 1 << 5 {
		s := mount.New(c)
		name := fmt.Sprintf("parted as %05b", ways)
		from := 0
		for to := 1; to <= 6; to++ {
			if to < 6 && ways>>(to-1)&1 == 0 {
				continue
			}
			before := c.Bill().Reads
			step(t, name, s, to-from, to == 6)
			if got := c.Bill().Reads - before; got != sum(want[from:to]) {
				t.Errorf("%s: %d to %d: %d reads", name, from, to, got)
			}
			from = to
		}
		holds(t, name, s, c, l)
	}
}

// P11.1: the greatest chip, full to the last page.
func TestGreatestChip(t *testing.T) {
	c := chip.New(api.MaxBlocks, api.MaxPages, nil)
	for i := range api.MaxBlocks {
		for j := range api.MaxPages {
			program(t, c, i, raw(t, ref((i*7+j)%61, 1+i*api.MaxPages+j), "a page"))
		}
	}
	const all = api.MaxBlocks * api.MaxPages
	for _, n := range []int{1, 31, 33, 1000, all - 1, all, all + 1, math.MaxInt} {
		s := mount.New(c)
		before := c.Bill().Reads
		steps := (all-1)/n + 1
		for i := range steps {
			step(t, fmt.Sprint("by ", n), s, n, i == steps-1)
		}
		if got := c.Bill().Reads - before; got != all {
			t.Errorf("by %d: %d reads", n, got)
		}
		holds(t, fmt.Sprint("by ", n), s, c, stand(c))
	}
}

// P11.1: block by block, page by page, each page once: ahead of each step all pages are written anew, with its number.
func TestPageByPage(t *testing.T) {
	const blocks, pages = 3, 2
	for _, sizes := range [][]int{{1, 1, 1, 1, 1, 1}, {2, 2, 2}, {3, 3}, {1, 3, 2}, {1, 4, 1}, {5, 1}, {6}, {4, math.MaxInt}} {
		c := chip.New(blocks, pages, nil)
		s := mount.New(c)
		var want []api.Found
		for i, n := range sizes {
			for b := range blocks {
				c.Erase(b)
				for range pages {
					program(t, c, b, raw(t, ref(1, 1+i), ""))
				}
			}
			step(t, fmt.Sprint(sizes), s, n, i == len(sizes)-1)
			for range min(n, blocks*pages-len(want)) {
				want = append(want, api.Found{Ref: ref(1, 1+i), Spot: spot(len(want)/pages, len(want)%pages)})
			}
		}
		if got := s.Found(); !slices.Equal(got, want) {
			t.Errorf("%v: found %s, not %s", sizes, told(got), told(want))
		}
	}
}

// P11.1: a block's Next is asked when its pages' turn comes.
func TestNextThen(t *testing.T) {
	c := laid(t, 2, " / 1.1 1.2 / ")
	s := mount.New(c)
	step(t, "clean yet", s, 1, false)
	if n := c.Bill().Reads; n != 0 {
		t.Errorf("%d reads of a clean block", n)
	}
	lay(t, c, 0, "2.1 2.2")
	step(t, "not clean any more", s, 1, false)
	if n := c.Bill().Reads; n != 1 {
		t.Errorf("%d reads", n)
	}
	step(t, "full yet", s, 1, false)
	c.Erase(1)
	step(t, "erased", s, 2, false)
	if n := c.Bill().Reads; n != 2 {
		t.Errorf("%d reads", n)
	}
	lay(t, c, 2, "3.1")
	step(t, "the last one", s, 1, true)
	if got := told(s.Found()); got != "2.2@0.1 1.1@1.0" {
		t.Errorf("found %s", got)
	}
}

var below = []int{math.MinInt, -1 << 32, -2, -1, 0}

// refused: the step tells this error, and nothing is read.
func refused(t *testing.T, name string, s *mount.Scan, c *chip.Chip, n int, want api.Errno) {
	t.Helper()
	before := c.Bill()
	if ok, err := s.Step(n); ok || err != want {
		t.Errorf("%s: Step(%d): %v, %d, not %d", name, n, ok, err, want)
	}
	if got := c.Bill(); got != before {
		t.Errorf("%s: Step(%d): it cost %v, of %v", name, n, got, before)
	}
}

// gone lets the power go, and leaves all blocks as they are: an erase at which it goes, of a block that is clean.
func gone(t *testing.T, c *chip.Chip, clean int) {
	t.Helper()
	c.Cut(0, math.MaxInt)
	if err := c.Erase(clean); err != api.ErrDown || !c.Down() {
		t.Fatalf("the power is not gone: %d", err)
	}
}

// P11.1, R4: n below 1, ahead of no power; behind each the scan is where it was.
func TestErrors(t *testing.T) {
	c := laid(t, 2, "0.1 1.2 / / 2.3 2.4")
	for at := range 7 {
		s := mount.New(c)
		name := fmt.Sprint("behind page ", at)
		if at > 0 {
			step(t, name, s, at, at == 6)
		}
		for _, n := range below {
			refused(t, name, s, c, n, api.ErrArg)
		}
		gone(t, c, 1)
		for _, n := range below {
			refused(t, name+", no power", s, c, n, api.ErrArg)
		}
		for _, n := range []int{1, 2, 6, math.MaxInt} {
			refused(t, name+", no power", s, c, n, api.ErrDown)
		}
		if at < 6 {
			silent(t, name, s)
		}
		c.Power()
		for i := at; i < 6; i++ {
			silent(t, name, s)
			before := c.Bill().Reads
			step(t, name+", power again", s, 1, i == 5)
			if got := c.Bill().Reads - before; got != turns(c)[i] {
				t.Errorf("%s: page %d: %d reads", name, i, got)
			}
		}
		holds(t, name, s, c, stand(c))
	}
}

// P11.1: without power also where no page would be read.
func TestDownClean(t *testing.T) {
	c := chip.New(3, 2, nil)
	s := mount.New(c)
	gone(t, c, 2)
	refused(t, "all are clean", s, c, 1, api.ErrDown)
	refused(t, "all are clean", s, c, math.MaxInt, api.ErrDown)
	if s = mount.New(c); s == nil {
		t.Fatal("none of a chip without power")
	}
	refused(t, "made without power", s, c, 6, api.ErrDown)
	silent(t, "made without power", s)
	c.Power()
	step(t, "power again", s, 6, true)
}

// P11.1: from the end on: true, and nothing is read, whatever stands on the chip then.
func TestThrough(t *testing.T) {
	for _, k := range kinds(t) {
		s, l := scanned(t, k.c), stand(k.c)
		before := k.c.Bill()
		for _, n := range []int{1, 2, 100, math.MaxInt} {
			step(t, k.name, s, n, true)
		}
		if got := k.c.Bill(); got != before {
			t.Errorf("%s: it cost %v, of %v", k.name, got, before)
		}
		holds(t, k.name, s, k.c, l)
	}
	c := laid(t, 2, "0.1 1.2 / ")
	s := scanned(t, c)
	c.Erase(0)
	lay(t, c, 1, "0.9 3.9")
	step(t, "other pages", s, 4, true)
	if got := told(s.Found()); got != "0.1@0.0 1.2@0.1" {
		t.Errorf("found %s", got)
	}
	if x, ok := s.Root(); !ok || !same(x, api.Sheet{Seq: 1, Data: []byte("0.0")}) || s.Seq() != 2 {
		t.Errorf("root %v, %v, Seq %d", x, ok, s.Seq())
	}
}
