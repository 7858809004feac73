package mount_test

import (
	"bytes"
	"math"
	"slices"
	"strings"
	"testing"

	"potsherd/api"
	"potsherd/chip"
	"potsherd/mount"
)

// P11.2: what is found, which root it is (by where it stands), and the greatest Seq, of all sheets.
func TestFound(t *testing.T) {
	for _, x := range []struct {
		text  string
		found string
		root  string // where it stands: none, if nothing
		seq   int
	}{
		{" / ", "", "", 0},
		{"x x / x", "", "", 0},
		{"1.1", "1.1@0.0", "", 1},
		{"0.1", "0.1@0.0", "0.0", 1},
		{" / 0.1", "0.1@1.0", "1.0", 1},
		{"x x 0.1", "0.1@0.2", "0.2", 1},
		{"60.7 / 59.9 / 1.8", "60.7@0.0 59.9@1.0 1.8@2.0", "", 9},
		{"0.1 1.2 0.3 / 0.2", "0.1@0.0 1.2@0.1 0.3@0.2 0.2@1.0", "0.2", 3},
		{"0.2 / 0.1 0.3", "0.2@0.0 0.1@1.0 0.3@1.1", "1.1", 3},
		{"0.3 0.1 / 0.2", "0.3@0.0 0.1@0.1 0.2@1.0", "0.0", 3},
		{"1.9 0.2 / 2.8 0.4", "1.9@0.0 0.2@0.1 2.8@1.0 0.4@1.1", "1.1", 9},
		{"0.4 1.9", "0.4@0.0 1.9@0.1", "0.0", 9},
		{"0.9 1.4", "0.9@0.0 1.4@0.1", "0.0", 9},
		{"0.10 0.9", "0.10@0.0 0.9@0.1", "0.0", 10},
		// Of several the first one.
		{"0.5 0.5", "0.5@0.0 0.5@0.1", "0.0", 5},
		{"x 0.5 / 0.5", "0.5@0.1 0.5@1.0", "0.1", 5},
		{"0.1 0.2 0.5 / 0.5", "0.1@0.0 0.2@0.1 0.5@0.2 0.5@1.0", "0.2", 5},
		{"0.4 / 0.5 / 0.5", "0.4@0.0 0.5@1.0 0.5@2.0", "1.0", 5},
		{"0.5 / 0.6 / 0.5 0.6", "0.5@0.0 0.6@1.0 0.5@2.0 0.6@2.1", "1.0", 6},
		// A page more than once, in one block and in several; other writings of it.
		{"3.1 3.1 / 3.1", "3.1@0.0 3.1@0.1 3.1@1.0", "", 1},
		{"3.1 3.2 3.1 / x 3.2", "3.1@0.0 3.2@0.1 3.1@0.2 3.2@1.1", "", 2},
		// In order as numbers: ten blocks and more.
		{"/////////2.1/1.1/0.1", "2.1@9.0 1.1@10.0 0.1@11.0", "11.0", 1},
	} {
		c := laid(t, 3, x.text)
		s := scanned(t, c)
		if got := told(s.Found()); got != x.found {
			t.Errorf("%s: found %s, not %s", x.text, got, x.found)
		}
		if got, ok := s.Root(); string(got.Data) != x.root || ok != (x.root != "") || got.Page != 0 {
			t.Errorf("%s: root %v, %v, not %s", x.text, got, ok, x.root)
		}
		if got := s.Seq(); got != x.seq {
			t.Errorf("%s: Seq %d, not %d", x.text, got, x.seq)
		}
		holds(t, x.text, s, c, stand(c))
	}
}

// P11.2: the bounds of a sheet's numbers, and of its data.
func TestGreatestSheet(t *testing.T) {
	const fit = api.MaxSheet - 1 - 1 - 2 - 1 // beside Page and Seq 1, the length, and the end
	c := chip.New(2, 3, nil)
	program(t, c, 0, raw(t, ref(api.MaxNodes*api.MaxFile, 1), strings.Repeat("p", fit)))
	program(t, c, 0, raw(t, ref(0, 1), strings.Repeat("r", fit)))
	program(t, c, 0, raw(t, ref(1, api.MaxSeq-1), ""))
	s := scanned(t, c)
	if x, ok := s.Root(); !ok || !same(x, api.Sheet{Seq: 1, Data: bytes.Repeat([]byte{'r'}, fit)}) || s.Seq() != api.MaxSeq-1 {
		t.Errorf("root %v, %v, Seq %d", x, ok, s.Seq())
	}
	program(t, c, 1, raw(t, ref(0, api.MaxSeq), ""))
	s = scanned(t, c)
	if x, ok := s.Root(); !ok || !same(x, api.Sheet{Seq: api.MaxSeq}) || s.Seq() != api.MaxSeq {
		t.Errorf("root %v, %v, Seq %d", x, ok, s.Seq())
	}
	holds(t, "the greatest", s, c, stand(c))
}

// P11.2 (T4): what is nearly a sheet is none; a root that is torn does not hide the one of before.
func TestTorn(t *testing.T) {
	b := raw(t, ref(0, 2), "newer")
	for keep := range len(b) + 2 {
		c := laid(t, 2, "0.1 / ")
		cut(c, keep, func() { c.Program(spot(1, 0), b) })
		s := scanned(t, c)
		want, seq := "0.1@0.0", 1
		if keep >= len(b) {
			want, seq = "0.1@0.0 0.2@1.0", 2
		}
		if x, ok := s.Root(); !ok || x.Seq != seq || s.Seq() != seq || told(s.Found()) != want {
			t.Errorf("%d kept: root %v, %v, Seq %d, %s", keep, x, ok, s.Seq(), told(s.Found()))
		}
	}
	for _, b := range [][]byte{append(b, 0), append([]byte{0}, b...), b[1:], {0, 0, 0, 0x5a}, {61, 1, 0, 0x5a}, {0, 1, 0, 0x5b}} {
		c := laid(t, 3, "0.1")
		program(t, c, 0, b)
		lay(t, c, 0, "1.1")
		if got := told(scanned(t, c).Found()); got != "0.1@0.0 1.1@0.2" {
			t.Errorf("%x: found %s", b, got)
		}
	}
}

// P11.2: of bad blocks as of others.
func TestBadBlocks(t *testing.T) {
	c := laid(t, 2, "0.1 1.1 / 2.2 / 3.3")
	c.Worn(0)
	c.Erase(0)
	c.Fail(0)
	c.Program(spot(1, 1), raw(t, ref(0, 4), "half of it"))
	if c.Erase(0) != api.ErrBad || c.Erase(1) != api.ErrBad {
		t.Fatal("not bad")
	}
	before := c.Bill().Reads
	s := scanned(t, c)
	if got := told(s.Found()); got != "0.1@0.0 1.1@0.1 2.2@1.0 3.3@2.0" || c.Bill().Reads-before != 6 {
		t.Errorf("found %s, by %d reads", got, c.Bill().Reads-before)
	}
	if l, err := s.Pick(refs(t, "1.1 2.2 0.1")); told(l) != "1.1@0.1 2.2@1.0 0.1@0.0" || err != api.OK {
		t.Errorf("Pick: %s, %d", told(l), err)
	}
}

// P11.2: nothing is read: so all is told without power, too.
func TestToldWithoutPower(t *testing.T) {
	c := laid(t, 2, "0.1 1.2 / / 1.2")
	s, l := scanned(t, c), stand(c)
	gone(t, c, 1)
	holds(t, "no power", s, c, l)
	c.Power()
	holds(t, "power again", s, c, l)
}

// P11.2, R3: no scan, and one that was made without New, tell nothing, whatever they are asked.
func TestNoScan(t *testing.T) {
	for name, s := range map[string]*mount.Scan{"nil": nil, "made without New": {}} {
		for range 2 {
			for _, n := range append(below, 1, 2, 1<<32, math.MaxInt) {
				if ok, err := s.Step(n); ok || err != api.ErrArg {
					t.Errorf("%s: Step(%d): %v, %d", name, n, ok, err)
				}
			}
			if x, ok := s.Root(); !same(x, api.Sheet{}) || ok || s.Seq() != 0 || len(s.Found()) > 0 {
				t.Errorf("%s: %v, %v, %d, %v", name, x, ok, s.Seq(), s.Found())
			}
			for _, live := range [][]api.Ref{nil, {}, {ref(0, 0)}, {ref(1, 1)}, {ref(1, 1), ref(1, 1)}} {
				if l, err := s.Pick(live); len(l) > 0 || err != api.ErrArg {
					t.Errorf("%s: Pick(%v): %v, %d", name, live, l, err)
				}
			}
		}
	}
}

// R3: a chip that was made without New has no pages.
func TestChipOfNothing(t *testing.T) {
	s := mount.New(&chip.Chip{})
	for _, n := range below {
		refused(t, "no pages", s, &chip.Chip{}, n, api.ErrArg)
	}
	step(t, "no pages", s, 1, true)
	step(t, "no pages", s, math.MaxInt, true)
	holds(t, "no pages", s, &chip.Chip{}, nil)
}

// R2: what is told is the caller's own.
func TestOwn(t *testing.T) {
	c := laid(t, 3, "0.1 1.2 / 0.3 2.4 / 1.2")
	s := scanned(t, c)
	want := stand(c)
	all, again := s.Found(), s.Found()
	for i := range all {
		all[i] = api.Found{Ref: ref(-9, -9), Spot: spot(-9, -9)}
	}
	clear(append(all, api.Found{})[:cap(all)])
	if !slices.Equal(again, want) {
		t.Errorf("two lists share memory: %s", told(again))
	}
	picked, err := s.Pick(refs(t, "1.2 0.3"))
	if err != api.OK {
		t.Fatal(err)
	}
	clear(append(picked, api.Found{})[:cap(picked)])
	a, _ := s.Root()
	b, _ := s.Root()
	clear(append(a.Data, 1)[:cap(a.Data)])
	if string(b.Data) != "1.0" {
		t.Errorf("two roots share memory: %q", b.Data)
	}
	holds(t, "written into", s, c, want)
	if page, _ := c.Read(spot(1, 0)); !bytes.Equal(page, raw(t, ref(0, 3), "1.0")) {
		t.Errorf("the chip's page: %q", page)
	}
}

// R6: two scans of one chip, and scans of two chips, have nothing to do with each other.
func TestApart(t *testing.T) {
	c, other := laid(t, 2, "0.1 1.2 / 2.3"), laid(t, 2, "3.1 / 0.9 / ")
	a, b, d := mount.New(c), mount.New(c), mount.New(other)
	step(t, "one", a, 3, false)
	step(t, "the same chip", b, 1, false)
	step(t, "the other chip", d, 6, true)
	silent(t, "one", a)
	step(t, "one", a, 1, true)
	holds(t, "one", a, c, stand(c))
	silent(t, "the same chip", b)
	step(t, "the same chip", b, 2, false)
	step(t, "the same chip", b, 1, true)
	holds(t, "the same chip", b, c, stand(c))
	holds(t, "the other chip", d, other, stand(other))
}

// R2: a scan changes nothing on the chip, but for its bill.
func TestChipStays(t *testing.T) {
	for _, k := range kinds(t) {
		before, bill := k.c.Blocks(), k.c.Bill()
		s := scanned(t, k.c)
		s.Pick(refs(t, "0.1 1.2"))
		alike := func(a, b api.Block) bool {
			return a.Bad == b.Bad && a.Next == b.Next && a.Count == b.Count && slices.EqualFunc(a.Pages, b.Pages, bytes.Equal)
		}
		if !slices.EqualFunc(k.c.Blocks(), before, alike) || k.c.Down() {
			t.Errorf("%s: it is changed", k.name)
		}
		if got := k.c.Bill(); got.Programs != bill.Programs || got.Erases != bill.Erases {
			t.Errorf("%s: it cost %v, of %v", k.name, got, bill)
		}
	}
}
