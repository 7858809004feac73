package mount_test

import (
	"fmt"
	"math"
	"slices"
	"testing"

	"potsherd/api"
	"potsherd/chip"
	"potsherd/mount"
)

// pick says what Pick should tell, in another way: of each Ref all its spots are ranked.
func pick(found []api.Found, live []api.Ref) ([]api.Found, api.Errno) {
	for i, r := range live {
		for _, q := range live[:i] {
			if q.Page == r.Page {
				return nil, api.ErrArg
			}
		}
	}
	// most is how many of live's Refs a block has, each once.
	most := func(block int) int {
		n := 0
		for _, r := range live {
			if slices.ContainsFunc(found, func(f api.Found) bool { return f.Ref == r && f.Spot.Block == block }) {
				n++
			}
		}
		return n
	}
	var l []api.Found
	for _, r := range live {
		var of []api.Found
		for _, f := range found {
			if f.Ref == r {
				of = append(of, f)
			}
		}
		if len(of) == 0 {
			return nil, api.ErrNone
		}
		l = append(l, slices.MinFunc(of, func(f, g api.Found) int {
			if a, b := most(f.Spot.Block), most(g.Spot.Block); a != b {
				return b - a
			}
			if f.Spot.Block != g.Spot.Block {
				return f.Spot.Block - g.Spot.Block
			}
			return f.Spot.Page - g.Spot.Page
		}))
	}
	return l, api.OK
}

// P11.2, Pick: of each Ref a spot, in live's order.
func TestPick(t *testing.T) {
	for _, x := range []struct {
		name, text, live, want string
		err                    api.Errno
	}{
		{"nothing, of nothing", " / ", "", "", api.OK},
		{"nothing", "0.1 1.2", "", "", api.OK},
		{"each has one spot, in live's order", "1.1 2.2 / 3.3", "3.3 1.1 2.2", "3.3@1.0 1.1@0.0 2.2@0.1", api.OK},
		{"the other way round", "1.1 2.2 / 3.3", "2.2 1.1 3.3", "2.2@0.1 1.1@0.0 3.3@1.0", api.OK},
		{"some of them", "1.1 2.2 / 3.3", "2.2", "2.2@0.1", api.OK},
		{"a root is one, too", "1.1 0.2 / 0.3", "0.2 1.1", "0.2@0.1 1.1@0.0", api.OK},
		{"which writing", "1.1 1.2 / 1.3", "1.2", "1.2@0.1", api.OK},
		{"whose", "1.1 2.1 / 3.1", "3.1 2.1", "3.1@1.0 2.1@0.1", api.OK},
		{"in one block the lowest page", "x 1.1 1.1", "1.1", "1.1@0.1", api.OK},
		{"each the lowest page", "1.1 2.2 2.2 1.1", "2.2 1.1", "2.2@0.1 1.1@0.0", api.OK},
		{"the lower block", " / 1.1 / 1.1", "1.1", "1.1@1.0", api.OK},
		{"the lower block, with a higher page", "x x 1.1 / 1.1", "1.1", "1.1@0.2", api.OK},
		{"of two that have all, the lower one", "1.1 2.2 / 2.2 1.1", "1.1 2.2", "1.1@0.0 2.2@0.1", api.OK},
		{"the block with the most", "1.1 / 1.1 2.2", "1.1 2.2", "1.1@1.0 2.2@1.1", api.OK},
		{"the block with the most, in front", "1.1 2.2 / 1.1", "1.1 2.2", "1.1@0.0 2.2@0.1", api.OK},
		{"the block with the most, in the middle", "2.2 / 1.1 2.2 3.3 / 1.1 3.3", "1.1 2.2 3.3", "1.1@1.0 2.2@1.1 3.3@1.2", api.OK},
		{"the lowest page of the block with the most", "1.1 / x 1.1 2.2 1.1", "1.1 2.2", "1.1@1.1 2.2@1.2", api.OK},
		{"each once: twice in a block is not two", "1.1 / 1.1 1.1", "1.1", "1.1@0.0", api.OK},
		{"each once: three times one is less than two", "1.1 1.1 1.1 / 1.1 2.2", "1.1 2.2", "1.1@1.0 2.2@1.1", api.OK},
		{"each once: as many, the lower one", "1.1 2.2 / 1.1 1.1 2.2 2.2", "2.2 1.1", "2.2@0.1 1.1@0.0", api.OK},
		{"what is not live does not count", "1.1 3.3 4.4 5.5 / 1.1 2.2", "1.1 2.2", "1.1@1.0 2.2@1.1", api.OK},
		{"what is not live does not count, of one", "1.1 / 1.1 3.3", "1.1", "1.1@0.0", api.OK},
		{"other writings do not count", "1.1 2.1 2.3 / 1.1 2.2", "1.1 2.2", "1.1@1.0 2.2@1.1", api.OK},
		{"no sheets do not count", "x 1.1 x / 1.1 2.2", "1.1 2.2", "1.1@1.0 2.2@1.1", api.OK},
		{"other pages of the same Seq do not count", "1.1 3.1 4.1 / 1.1 2.1", "1.1 2.1", "1.1@1.0 2.1@1.1", api.OK},
		{"a root counts", "1.1 2.2 / 0.9 1.1 2.2", "0.9 1.1 2.2", "0.9@1.0 1.1@1.1 2.2@1.2", api.OK},
		{"a root that is not live does not", "1.1 2.2 / 0.9 1.1 2.2", "1.1 2.2", "1.1@0.0 2.2@0.1", api.OK},
		{"from several blocks", "1.1 / 2.2 3.3 / 3.3", "3.3 2.2 1.1", "3.3@1.1 2.2@1.0 1.1@0.0", api.OK},
		{"each asks for its own blocks", "1.1 / 1.1 2.2 / 2.2 3.3 4.4", "1.1 2.2 3.3 4.4", "1.1@1.0 2.2@2.0 3.3@2.1 4.4@2.2", api.OK},
		{"a block that has what is asked for, not the most of all", "1.1 2.2 3.3 / 4.4 / 4.4", "4.4 1.1 2.2 3.3", "4.4@1.0 1.1@0.0 2.2@0.1 3.3@0.2", api.OK},
		{"a Page twice", "1.1 1.2", "1.1 1.2", "", api.ErrArg},
		{"a Ref twice", "1.1 1.2", "1.1 1.1", "", api.ErrArg},
		{"a Page twice, far apart", "1.1 2.2 3.3 1.4", "1.1 2.2 3.3 1.4", "", api.ErrArg},
		{"a root twice", "0.1 0.2", "0.1 0.2", "", api.ErrArg},
		{"one that was not found", "1.1", "2.2", "", api.ErrNone},
		{"another writing", "1.1 2.2", "1.2", "", api.ErrNone},
		{"another page", "1.1 2.2", "2.1", "", api.ErrNone},
		{"the last was not found", "1.1 2.2", "1.1 2.2 3.3", "", api.ErrNone},
		{"the first was not found", "1.1 2.2", "3.3 1.1 2.2", "", api.ErrNone},
		{"none where there is nothing", " / ", "0.1", "", api.ErrNone},
		{"noughts", "0.1", "0.0", "", api.ErrNone},
		{"below nought", "0.1", "-1.-1", "", api.ErrNone},
		{"not found, and a Page twice behind it", "1.1", "2.2 1.1 1.1", "", api.ErrArg},
		{"not found, and that Page twice", "1.1", "2.2 2.3", "", api.ErrArg},
		{"none there, one below nought twice", " / ", "-1.1 -1.2", "", api.ErrArg},
	} {
		c := laid(t, 4, x.text)
		s, live := scanned(t, c), refs(t, x.live)
		before := c.Bill()
		for range 2 {
			got, err := s.Pick(live)
			if told(got) != x.want || err != x.err {
				t.Errorf("%s: %s, %d, not %s, %d", x.name, told(got), err, x.want, x.err)
			}
		}
		if want, err := pick(stand(c), live); told(want) != x.want || err != x.err {
			t.Errorf("%s: the test itself says %s, %d", x.name, told(want), err)
		}
		if got := c.Bill(); got != before {
			t.Errorf("%s: it cost %v, of %v", x.name, got, before)
		}
	}
}

// P11.2, Pick: all chips of three blocks of two pages, with what may be there, and all that may be asked of them.
func TestPickAll(t *testing.T) {
	pages := []string{"x", "1.1", "2.2", "1.2"}
	lives := []string{"", "1.1", "2.2", "1.2", "1.1 2.2", "2.2 1.1", "2.2 1.2", "1.1 1.2", "2.2 2.2"}
	for which := range 4 * 4 * 4 * 4 * 4 * 4 {
		var blocks [3]string
		for i, rest := 0, which; i < 6; i, rest = i+1, rest/4 {
			blocks[i/2] += " " + pages[rest%4]
		}
		text := blocks[0] + "/" + blocks[1] + "/" + blocks[2]
		c := laid(t, 2, text)
		s := scanned(t, c)
		for _, x := range lives {
			live := refs(t, x)
			got, err := s.Pick(live)
			if want, no := pick(stand(c), live); !slices.Equal(got, want) || err != no {
				t.Fatalf("%s: Pick(%s): %s, %d, not %s, %d", text, x, told(got), err, told(want), no)
			}
		}
	}
}

// P11.2, Pick: as many as may be live, in blocks that are full, each copied in part, in several orders.
func TestPickMany(t *testing.T) {
	const most = api.MaxNodes * api.MaxFile
	c := chip.New(9, api.MaxPages, nil)
	var live []api.Ref
	for i := range most + 1 {
		live = append(live, ref(i, 100+i*37%most))
	}
	for i := range 9 {
		for j := range api.MaxPages {
			program(t, c, i, raw(t, live[(i/2*16+j*(1+i%3))%len(live)], ""))
		}
	}
	s, l := scanned(t, c), stand(c)
	for turn := range live {
		asked := slices.Concat(live[turn:], live[:turn])
		for _, n := range []int{1, 2, 17, most + 1} {
			got, err := s.Pick(asked[:n])
			if want, no := pick(l, asked[:n]); !slices.Equal(got, want) || err != no || len(got) != n {
				t.Fatalf("turned by %d, %d of them: %s, %d, not %s, %d", turn, n, told(got), err, told(want), no)
			}
		}
	}
}

// R2: what is handed in is neither changed nor kept, and what lies behind its length is not read.
func TestPickHandedIn(t *testing.T) {
	s := scanned(t, laid(t, 3, "1.1 2.2 / 1.1 2.2 3.3"))
	live := refs(t, "2.2 1.1 1.1 9.9")
	was := slices.Clone(live)
	got, err := s.Pick(live[:2])
	if told(got) != "2.2@0.1 1.1@0.0" || err != api.OK {
		t.Errorf("%s, %d", told(got), err)
	}
	if !slices.Equal(live, was) {
		t.Errorf("handed in %v, now %v", was, live)
	}
	live[0], live[1] = ref(3, 3), ref(7, 7)
	if told(got) != "2.2@0.1 1.1@0.0" {
		t.Errorf("told %s", told(got))
	}
	if got, err = s.Pick(refs(t, "1.1 2.2")); told(got) != "1.1@0.0 2.2@0.1" || err != api.OK {
		t.Errorf("asked again: %s, %d", told(got), err)
	}
	if got, err = s.Pick(refs(t, "1.1 2.2 3.3")); told(got) != "1.1@1.0 2.2@1.1 3.3@1.2" || err != api.OK {
		t.Errorf("asked for one more: %s, %d", told(got), err)
	}
}

// R3, R4: whatever is handed in, there is no panic, and beside an error nothing.
func TestPickNoPanic(t *testing.T) {
	s := scanned(t, laid(t, 3, "0.1 1.1 / 2.2"))
	numbers := []int{math.MinInt, -1 << 32, -1, 0, 1, 2, 60, 61, 1 << 32, api.MaxSeq, api.MaxSeq + 1, math.MaxInt}
	for _, page := range numbers {
		for _, seq := range numbers {
			r := ref(page, seq)
			got, err := s.Pick([]api.Ref{r})
			if there := r == ref(0, 1) || r == ref(1, 1) || r == ref(2, 2); there != (err == api.OK) || !there && err != api.ErrNone || there != (len(got) == 1) {
				t.Errorf("%v: %s, %d", r, told(got), err)
			}
		}
	}
	var all []api.Ref
	for i := range 100000 {
		all = append(all, ref(i, 1))
	}
	if got, err := s.Pick(all); len(got) > 0 || err != api.ErrNone {
		t.Errorf("many: %d, %d", len(got), err)
	}
	if got, err := s.Pick(append(all, ref(0, 1))); len(got) > 0 || err != api.ErrArg {
		t.Errorf("many, and one twice: %d, %d", len(got), err)
	}
}

// copied is two blocks, a copy under way between them, and a third one that has to do with neither.
type copied struct {
	c        *chip.Chip
	from, to int
	live     []api.Ref
}

// begun is block from with three sheets, of which some are live.
func begun(t *testing.T, from, to, some int) copied {
	t.Helper()
	x := copied{c: chip.New(3, 4, nil), from: from, to: to, live: []api.Ref{ref(0, 9)}}
	lay(t, x.c, from, "1.1 2.2 3.3")
	for i, r := range refs(t, "1.1 2.2 3.3") {
		if some>>i&1 == 1 {
			x.live = append(x.live, r)
		}
	}
	lay(t, x.c, 3-from-to, "0.9")
	return x
}

// move copies what is live into the other block, and then erases the first one, as far as it goes.
func (x copied) move(t *testing.T) {
	t.Helper()
	for i, f := range stand(x.c) {
		if f.Spot.Block != x.from || !slices.Contains(x.live, f.Ref) {
			continue
		}
		b, err := x.c.Read(f.Spot)
		if err != api.OK {
			t.Fatalf("%d: not read: %d", i, err)
		}
		if x.c.Program(spot(x.to, x.c.Block(x.to).Next), b) != api.OK {
			return
		}
	}
	x.c.Erase(x.from)
}

// oneOf: all that is live is picked, and of the two blocks one has nothing that is.
func (x copied) oneOf(t *testing.T, name string) {
	t.Helper()
	l, err := scanned(t, x.c).Pick(x.live)
	if err != api.OK || len(l) != len(x.live) {
		t.Fatalf("%s: %s, %d", name, told(l), err)
	}
	blocks := map[int]int{}
	for i, f := range l {
		if f.Ref != x.live[i] || !slices.Contains(stand(x.c), f) {
			t.Errorf("%s: %s", name, told(l))
		}
		blocks[f.Spot.Block]++
	}
	if blocks[x.from] > 0 && blocks[x.to] > 0 {
		t.Errorf("%s: both are picked from: %s, of %s", name, told(l), told(stand(x.c)))
	}
}

// P11.3: a block is copied into another one, below and above it; at each program and erase the power goes, or it fails.
func TestCopied(t *testing.T) {
	for _, way := range [][2]int{{0, 1}, {1, 0}, {0, 2}, {2, 0}, {1, 2}, {2, 1}} {
		for some := 1; some < 8; some++ {
			for n := range 5 {
				for _, keep := range []int{0, 1, 2, 3, 4, api.MaxSheet} {
					x := begun(t, way[0], way[1], some)
					x.c.Cut(n, keep)
					x.move(t)
					x.c.Power()
					x.oneOf(t, fmt.Sprintf("%v, %03b, cut at %d, %d kept", way, some, n, keep))
				}
				x := begun(t, way[0], way[1], some)
				x.c.Fail(n)
				x.move(t)
				x.oneOf(t, fmt.Sprintf("%v, %03b, program %d fails", way, some, n))
			}
			x := begun(t, way[0], way[1], some)
			x.c.Worn(0)
			x.move(t)
			x.oneOf(t, fmt.Sprintf("%v, %03b, the erase fails", way, some))
			// The copy has more than what was copied: it was the open block.
			if x.c.Block(way[1]).Next < 4 {
				lay(t, x.c, way[1], "4.4")
				x.live = append(x.live, ref(4, 4))
			}
			x.oneOf(t, fmt.Sprintf("%v, %03b, the erase fails, and it goes on", way, some))
		}
	}
}

// R6: in whatever way a chip came to be, by whatever steps it is gone through, the same is picked.
func TestPickWayThere(t *testing.T) {
	c := laid(t, 3, "1.1 2.2 / 2.2 1.1 3.3 / 3.3")
	d := laid(t, 3, "3.3 3.3 / 1.1 / 3.3")
	d.Erase(0)
	d.Erase(1)
	lay(t, d, 1, "2.2 1.1 3.3")
	lay(t, d, 0, "1.1 2.2")
	live := refs(t, "3.3 1.1 2.2")
	for n := 1; n < 10; n++ {
		a, b := mount.New(c), mount.New(d)
		for range 9 {
			a.Step(n)
			b.Step(n)
		}
		l, err := a.Pick(live)
		m, also := b.Pick(live)
		if want := "3.3@1.2 1.1@1.1 2.2@1.0"; told(l) != want || told(m) != want || err != api.OK || also != api.OK {
			t.Errorf("by %d: %s, %d; %s, %d", n, told(l), err, told(m), also)
		}
	}
}
