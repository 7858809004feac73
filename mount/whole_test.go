package mount_test

import (
	"fmt"
	"maps"
	"slices"
	"testing"

	"potsherd/api"
	"potsherd/bytes"
	"potsherd/chip"
	"potsherd/mount"
	"potsherd/pool"
)

// configs have no room that they need not have, so that blocks are copied often.
func configs() []api.Config {
	return []api.Config{
		{Blocks: 6, Pages: 5, Spare: 1, Data: 12, Wear: 2},
		{Blocks: 8, Pages: 4, Spare: 2, Data: 10, Wear: 3},
		{Blocks: 3, Pages: 9, Spare: 0, Data: 10, Wear: 2},
		{Blocks: 13, Pages: 2, Spare: 4, Data: 5, Wear: 2},
	}
}

// world is a pool on a chip, and what its last root names: each page's data.
type world struct {
	t      *testing.T
	name   string
	c      *chip.Chip
	g      api.Config
	p      *pool.Pool
	live   map[api.Ref]string
	dice   uint64
	copies int // how often two blocks had a page that is live, when the chip was scanned
}

func start(t *testing.T, name string, g api.Config) *world {
	t.Helper()
	c := chip.New(g.Blocks, g.Pages, nil)
	p, err := pool.Open(c, g, 0, nil, 0)
	if err != api.OK {
		t.Fatalf("%s: %d", name, err)
	}
	w := &world{t: t, name: name, c: c, g: g, p: p, live: map[api.Ref]string{}, dice: 1}
	// With a root from the beginning on, a cut can't leave a chip without one.
	if err := p.Seal(nil, nil); err != api.OK {
		t.Fatalf("%s: %d", name, err)
	}
	return w
}

// throw is a number that looks like a thrown one, the same in each run.
func (w *world) throw(n int) int {
	w.dice = w.dice*6364136223846793005 + 1442695040888963407
	return int(w.dice>>33) % n
}

// named is a root: what it names, as bytes.
func named(l []api.Ref) []byte {
	var b []byte
	for _, r := range l {
		b = bytes.Number(bytes.Number(b, r.Page), r.Seq)
	}
	return b
}

func names(b []byte) []api.Ref {
	var l []api.Ref
	for r := bytes.NewReader(b); r.Left() > 0 && r.Err() == api.OK; {
		l = append(l, ref(r.Number(60), r.Number(api.MaxSeq)))
	}
	return l
}

func order(a, b api.Ref) int { return a.Page - b.Page }

// call puts some pages and seals them. It tells what is live if the root stands, whether or not it was answered.
func (w *world) call() (map[api.Ref]string, api.Errno) {
	w.t.Helper()
	next := maps.Clone(w.live)
	for range w.throw(api.MaxFile) {
		// Few pages are hot, most stay cold: so blocks have some that are live, and some that are not.
		page := 1 + w.throw(w.g.Data)
		if len(next) > w.g.Data/2 && w.throw(6) > 0 {
			page = 1 + w.throw(3)
		}
		data := fmt.Sprint(page, " thrown ", w.throw(1000))
		r, err := w.p.Put(page, []byte(data))
		if err != api.OK {
			return w.live, err
		}
		maps.DeleteFunc(next, func(q api.Ref, _ string) bool { return q.Page == page })
		next[r] = data
	}
	l := slices.SortedFunc(maps.Keys(next), order)
	err := w.p.Seal(named(l), l)
	if err == api.OK {
		w.live = next
	}
	return next, err
}

// mount is behind a cut: the root that is found names what was live, or what would be (T4).
func (w *world) mount(next map[api.Ref]string) {
	w.t.Helper()
	w.c.Power()
	s := mount.New(w.c)
	n := 1 + w.throw(9)
	steps := (w.g.Blocks*w.g.Pages-1)/n + 1
	for i := range steps {
		if ok, err := s.Step(n); ok != (i == steps-1) || err != api.OK {
			w.t.Fatalf("%s: step %d of %d: %v, %d", w.name, i, steps, ok, err)
		}
	}
	root, ok := s.Root()
	live := names(root.Data)
	switch {
	case !ok:
		w.t.Fatalf("%s: no root", w.name)
	case slices.Equal(live, slices.SortedFunc(maps.Keys(next), order)):
		w.live = next
	case !slices.Equal(live, slices.SortedFunc(maps.Keys(w.live), order)):
		w.t.Fatalf("%s: the root names %v, not %v, nor %v", w.name, live, w.live, next)
	}
	l, err := s.Pick(append(live, ref(0, root.Seq)))
	if err != api.OK {
		w.t.Fatalf("%s: Pick: %d", w.name, err)
	}
	w.oneOfTwo(s.Found(), l)
	if w.p, err = pool.Open(w.c, w.g, 0, l, s.Seq()); err != api.OK {
		w.t.Fatalf("%s: the pool is not opened: %d", w.name, err)
	}
	for r, data := range w.live {
		if b, err := w.p.Read(r); string(b) != data || err != api.OK {
			w.t.Fatalf("%s: %v reads %q, %d, not %q", w.name, r, b, err, data)
		}
	}
}

// oneOfTwo: P11.3: only a copy has what another block has, too; of two that have a page that is live, one has nothing that is picked.
func (w *world) oneOfTwo(found, picked []api.Found) {
	w.t.Helper()
	has := map[int]map[api.Ref]int{}
	from := map[int]int{}
	for _, f := range picked {
		from[f.Spot.Block]++
		for _, g := range found {
			if g.Ref == f.Ref && has[g.Spot.Block] == nil {
				has[g.Spot.Block] = map[api.Ref]int{}
			}
			if g.Ref == f.Ref {
				has[g.Spot.Block][g.Ref]++
			}
		}
	}
	for a := range has {
		for b := range has {
			if a >= b || !shared(has[a], has[b]) {
				continue
			}
			w.copies++
			if from[a] > 0 && from[b] > 0 {
				w.t.Fatalf("%s: %d and %d: of %s are picked %s", w.name, a, b, told(found), told(picked))
			}
		}
	}
}

func shared(a, b map[api.Ref]int) bool {
	for r := range a {
		if b[r] > 0 {
			return true
		}
	}
	return false
}

// play goes on behind each cut, as far as so many calls, or to where nothing is written any more.
func (w *world) play(calls int, behind func()) {
	w.t.Helper()
	for range calls {
		next, err := w.call()
		if err == api.ErrRead {
			return
		}
		if err == api.ErrDown {
			w.mount(next)
			behind()
		} else if err != api.OK {
			w.t.Fatalf("%s: %d", w.name, err)
		}
	}
	w.mount(w.live)
}

// P11.3 (T4): a cut at each program and erase of a script, however much of it is done: what is picked is whole, and of a copy and what it was made of one has nothing of it.
func TestEachCut(t *testing.T) {
	for i, g := range configs() {
		t.Run(fmt.Sprint(i), func(t *testing.T) {
			t.Parallel()
			copies := 0
			for n := range 250 {
				for _, keep := range []int{0, 1, 3, api.MaxSheet} {
					w := start(t, fmt.Sprintf("cut at %d, %d kept", n, keep), g)
					w.c.Cut(n, keep)
					w.play(10+n/2, func() {})
					copies += w.copies
				}
			}
			// Else nothing was seen of what the promise is about.
			if copies < 5 {
				t.Errorf("%d copies only", copies)
			}
		})
	}
}

// P11.3 (T4): cut upon cut, with failures between, which leave bad blocks with copies in them.
func TestCutsAndFailures(t *testing.T) {
	for i, g := range configs() {
		t.Run(fmt.Sprint(i), func(t *testing.T) {
			t.Parallel()
			copies := 0
			for n := range 150 {
				w := start(t, fmt.Sprintf("cuts from %d", n), g)
				w.dice = uint64(n)
				w.c.Cut(20+n, w.throw(6))
				left := 25
				w.play(70, func() {
					if left--; left > 0 {
						w.c.Cut(w.throw(1+2*left), w.throw(9))
					}
					switch w.throw(12) {
					case 0:
						w.c.Fail(w.throw(9))
					case 1:
						w.c.Worn(w.throw(9))
					}
				})
				copies += w.copies
			}
			// Else nothing was seen of what the promise is about.
			if copies < 5 {
				t.Errorf("%d copies only", copies)
			}
		})
	}
}
