package pool_test

import (
	"bytes"
	"fmt"
	"maps"
	"slices"
	"testing"

	"potsherd/api"
	"potsherd/block"
	"potsherd/chip"
	"potsherd/place"
	"potsherd/plan"
	"potsherd/pool"
	"potsherd/sheet"
	"potsherd/wear"

	number "potsherd/bytes"
)

// world is a pool on a chip, and what it should tell.
type world struct {
	t     *testing.T
	name  string
	c     *chip.Chip
	g     api.Config
	bad   int
	p     *pool.Pool
	live  map[api.Ref]string // with the root
	fresh map[api.Ref]string
	seq   int
	cuts  int
}

// start is on a chip whose erases are as far apart as they may be, so that wear has something to do soon.
func start(t *testing.T, name string, g api.Config, bad ...int) *world {
	t.Helper()
	c := made(g, bad...)
	for i := range g.Blocks {
		if !slices.Contains(bad, i) {
			warm(t, c, i, i*5%(g.Wear+1))
		}
	}
	p := opened(t, c, g, len(bad), nil, 0)
	return &world{t: t, name: name, c: c, g: g, bad: len(bad), p: p, live: map[api.Ref]string{}, fresh: map[api.Ref]string{}}
}

// price is cost.Price of one page.
func price(g api.Config, fails int) api.Bill {
	x := 2 * (g.Blocks + 4) * (fails + 1)
	return api.Bill{Reads: x * g.Pages, Programs: x * g.Pages, Erases: x}
}

// call does one, and holds P10.4 against it, and what the pool tells of itself behind it.
func (w *world) call(what string, do func() api.Errno) api.Errno {
	w.t.Helper()
	before, l := w.c.Bill(), w.c.Blocks()
	enough := len(block.Cleans(l)) >= w.floor(l)
	failed := block.Bad(l)
	err := do()
	l = w.c.Blocks()
	failed = block.Bad(l) - failed
	want := api.OK
	if block.Bad(l)-w.bad > w.g.Spare {
		want = api.ErrRead
	}
	if w.c.Down() {
		want = api.ErrDown
	}
	if err != want {
		w.t.Fatalf("%s: %s: %d, not %d", w.name, what, err, want)
	}
	got, most := cost(w.c, before), price(w.g, failed)
	if got.Reads > most.Reads || got.Programs > most.Programs || got.Erases > most.Erases {
		w.t.Fatalf("%s: %s: it cost %v, more than %v", w.name, what, got, most)
	}
	if n := len(block.Cleans(l)); err == api.OK && enough && n < w.floor(l) {
		w.t.Fatalf("%s: %s: %d are clean", w.name, what, n)
	}
	if n := wear.Apart(block.Counts(l), block.Good(l)); err == api.OK && w.cuts == 0 && n > w.g.Wear+1 {
		w.t.Fatalf("%s: %s: erases are %d apart", w.name, what, n)
	}
	return err
}

func (w *world) floor(l []api.Block) int {
	return plan.Floor(w.g, block.Bad(l)-w.bad)
}

func (w *world) put(page int, data string) (api.Ref, api.Errno) {
	w.t.Helper()
	var r api.Ref
	w.seq++
	err := w.call(fmt.Sprint("put ", w.seq), func() (err api.Errno) {
		r, err = w.p.Put(page, []byte(data))
		return err
	})
	if err == api.OK {
		w.fresh[ref(page, w.seq)] = data
	} else {
		w.fresh = map[api.Ref]string{}
	}
	if err == api.OK && r != ref(page, w.seq) || err != api.OK && r != (api.Ref{}) {
		w.t.Fatalf("%s: put %d: %v", w.name, w.seq, r)
	}
	w.holds()
	return r, err
}

func (w *world) seal(l []api.Ref) api.Errno {
	w.t.Helper()
	w.seq++
	data := named(l)
	err := w.call(fmt.Sprint("seal ", w.seq), func() api.Errno { return w.p.Seal([]byte(data), l) })
	if err == api.OK {
		w.live = w.sealed(l, data)
	}
	w.fresh = map[api.Ref]string{}
	w.holds()
	return err
}

// sealed is what would be live.
func (w *world) sealed(l []api.Ref, data string) map[api.Ref]string {
	live := map[api.Ref]string{ref(0, w.seq): data}
	for _, r := range l {
		live[r] = w.live[r]
		if s, ok := w.fresh[r]; ok {
			live[r] = s
		}
	}
	return live
}

// named is a root: what it names, as bytes.
func named(l []api.Ref) string {
	var b []byte
	for _, r := range l {
		b = number.Number(number.Number(b, r.Page), r.Seq)
	}
	return string(b)
}

func names(t *testing.T, b []byte) []api.Ref {
	t.Helper()
	var l []api.Ref
	for r := number.NewReader(b); r.Left() > 0 && r.Err() == api.OK; {
		l = append(l, ref(r.Number(60), r.Number(api.MaxSeq)))
	}
	return l
}

// holds what the pool tells of itself against what it should, and what is live and new against what stands on the chip.
func (w *world) holds() {
	w.t.Helper()
	live, fresh := w.p.Live(), w.p.New()
	if w.p.Seq() != w.seq || len(live) != len(w.live) || len(fresh) != len(w.fresh) {
		w.t.Fatalf("%s: %v, %v, %d, not %v, %v, %d", w.name, live, fresh, w.p.Seq(), w.live, w.fresh, w.seq)
	}
	l := w.c.Blocks()
	for _, f := range live {
		data, ok := w.live[f.Ref]
		if page := l[f.Spot.Block].Pages[f.Spot.Page]; !ok || !bytes.Equal(page, raw(w.t, f.Ref, data)) {
			w.t.Fatalf("%s: %v has %q", w.name, f, page)
		}
	}
	if w.c.Down() {
		return
	}
	for _, m := range []map[api.Ref]string{w.live, w.fresh} {
		for r, data := range m {
			if b, err := w.p.Read(r); string(b) != data || err != api.OK {
				w.t.Fatalf("%s: %v reads %q, %d, not %q", w.name, r, b, err, data)
			}
		}
	}
}

// found is each sheet on a chip.
func found(c *chip.Chip) (l []api.Found, seq int) {
	for i, b := range c.Blocks() {
		for j, page := range b.Pages {
			if s, err := sheet.Parse(page); err == api.OK {
				l = append(l, at(ref(s.Page, s.Seq), i, j))
				seq = max(seq, s.Seq)
			}
		}
	}
	return l, seq
}

// pick says where what is live stands, as chapter 11 has it: in the block with the most of it, of two the lower one.
func pick(t *testing.T, l []api.Found, live []api.Ref) []api.Found {
	t.Helper()
	most := func(block int) int {
		refs := map[api.Ref]int{}
		for _, f := range l {
			if f.Spot.Block == block && slices.Contains(live, f.Ref) {
				refs[f.Ref]++
			}
		}
		return len(refs)
	}
	var picked []api.Found
	for _, r := range live {
		best := place.New()
		n := -1
		for _, f := range l {
			if f.Ref == r && most(f.Spot.Block) > n {
				n = most(f.Spot.Block)
				best.Put(r, f.Spot)
			}
		}
		if best.Len() == 0 {
			t.Fatalf("%v is not found", r)
		}
		picked = append(picked, best.All()...)
	}
	return picked
}

// mount gives the power back, and opens a pool of what the newest root names.
func (w *world) mount() {
	w.t.Helper()
	w.c.Power()
	w.cuts++
	l, seq := found(w.c)
	var live []api.Ref
	for _, f := range l {
		if f.Ref.Page == 0 && (live == nil || f.Ref.Seq > live[0].Seq) {
			s, err := sheet.Parse(w.c.Block(f.Spot.Block).Pages[f.Spot.Page])
			if err != api.OK {
				w.t.Fatalf("%s: no root: %d", w.name, err)
			}
			live = append([]api.Ref{f.Ref}, names(w.t, s.Data)...)
		}
	}
	w.p = opened(w.t, w.c, w.g, w.bad, pick(w.t, l, live), seq)
	w.seq = seq
	w.fresh = map[api.Ref]string{}
}

// dice are numbers that look like thrown ones, the same in each run.
type dice uint64

func (d *dice) throw(n int) int {
	*d = *d*6364136223846793005 + 1442695040888963407
	return int(uint64(*d)>>33) % n
}

// script is a tree's calls: each puts some pages, and seals them with those of before.
type script struct {
	d     dice
	pages map[int]api.Ref // what the last one that told OK has named
	left  int
}

// next is the pages of a call that are written, each with its bytes. At first all pages are; then few of them are hot, and most stay cold.
func (s *script) next(g api.Config) []int {
	s.left--
	var l []int
	for range s.d.throw(api.MaxFile + 1) {
		page := 1 + s.d.throw(g.Data)
		if len(s.pages) > g.Data/2 && s.d.throw(8) > 0 {
			page = 1 + s.d.throw(min(g.Data, 3))
		}
		l = append(l, page)
	}
	return l
}

// do is one of a script. It tells the error, and what would be live if the root stands all the same.
func (w *world) do(s *script) (api.Errno, map[api.Ref]string) {
	w.t.Helper()
	pages := maps.Clone(s.pages)
	for _, page := range s.next(w.g) {
		r, err := w.put(page, fmt.Sprintf("%d in %d", page, s.left))
		if err != api.OK {
			return err, w.live
		}
		pages[page] = r
	}
	if s.d.throw(12) == 0 {
		delete(pages, 1+s.d.throw(w.g.Data))
	}
	var l []api.Ref
	for _, page := range slices.Sorted(maps.Keys(pages)) {
		l = append(l, pages[page])
	}
	w.seq++
	next := w.sealed(l, named(l))
	w.seq--
	err := w.seal(l)
	if err == api.OK {
		s.pages = pages
	}
	return err, next
}

// play does a script to its end, or to where nothing is written any more. It goes on behind a cut, with what stands there then.
func (w *world) play(s *script, behind func(w *world)) {
	w.t.Helper()
	for s.left > 0 {
		err, next := w.do(s)
		if err == api.ErrRead {
			w.holds()
			return
		}
		if err == api.OK {
			continue
		}
		w.mount()
		if len(w.p.Live()) > 0 && maps.Equal(next, w.told()) {
			w.live = next
			s.pages = map[int]api.Ref{}
			for r := range next {
				s.pages[r.Page] = r
			}
			delete(s.pages, 0)
		}
		w.holds()
		if behind != nil {
			behind(w)
		}
	}
}

// told is what the pool has live, by what it reads.
func (w *world) told() map[api.Ref]string {
	l := map[api.Ref]string{}
	for _, f := range w.p.Live() {
		b, _ := w.p.Read(f.Ref)
		l[f.Ref] = string(b)
	}
	return l
}

func begin(seed, calls int) *script {
	return &script{d: dice(seed), pages: map[int]api.Ref{}, left: calls}
}

// tight are configs with no room that they need not have, and bad blocks from the beginning on.
func tight() []struct {
	g   api.Config
	bad []int
} {
	return []struct {
		g   api.Config
		bad []int
	}{
		{api.Config{Blocks: 6, Pages: 8, Spare: 1, Data: 10, Wear: 2}, nil},
		{api.Config{Blocks: 6, Pages: 5, Spare: 1, Data: 12, Wear: 2}, nil},
		{api.Config{Blocks: 8, Pages: 4, Spare: 2, Data: 8, Wear: 3}, []int{2}},
		{api.Config{Blocks: 3, Pages: 9, Spare: 0, Data: 10, Wear: 2}, nil},
		{api.Config{Blocks: 13, Pages: 2, Spare: 3, Data: 5, Wear: 2}, []int{0, 12}},
		{api.Config{Blocks: 12, Pages: 3, Spare: 6, Data: 7, Wear: 5}, nil},
	}
}

// P10.4 (T2, T3, T5): whatever is put and sealed, without failures.
func TestWhole(t *testing.T) {
	for i, x := range tight() {
		for seed := range 6 {
			w := start(t, fmt.Sprintf("%d, %d", i, seed), x.g, x.bad...)
			w.play(begin(seed, 300), nil)
			if w.p.Bads() != 0 || len(w.live) < 2 {
				t.Errorf("%s: %v", w.name, w.live)
			}
		}
	}
}

// P10.4: the most that may be live and new, as often as there is a call, and the greatest chip.
func TestWholeFull(t *testing.T) {
	most := api.Config{Blocks: api.MaxBlocks, Pages: api.MaxPages, Spare: api.MaxSpare, Data: api.MaxData, Wear: api.MaxWear}
	small := api.Config{Blocks: 9, Pages: 11, Spare: 1, Data: 60, Wear: 2}
	for _, x := range []struct {
		g     api.Config
		calls int
	}{{small, 80}, {most, 120}} {
		w := start(t, fmt.Sprint(x.g), x.g)
		pages := map[int]api.Ref{}
		for i := range x.calls {
			for j := range api.MaxFile {
				page := 1 + (i*api.MaxFile+j)%x.g.Data
				pages[page], _ = w.put(page, fmt.Sprint(i))
			}
			w.seal(slices.Collect(maps.Values(pages)))
		}
		if n := len(w.p.Live()); n != x.g.Data+1 {
			t.Errorf("%s: %d are live", w.name, n)
		}
		if x.g == most {
			continue
		}
		for range api.MaxFile {
			w.put(1, "one more")
		}
		if _, err := w.p.Put(1, []byte("too many")); err != api.ErrState {
			t.Errorf("%s: %d", w.name, err)
		}
	}
}

// P10.4: failures here and there, till it is Over.
func TestWholeFails(t *testing.T) {
	for i, x := range tight() {
		for seed := range 12 {
			w := start(t, fmt.Sprintf("%d, %d", i, seed), x.g, x.bad...)
			s := begin(seed, 40)
			d := dice(seed)
			for j := range x.g.Spare + 1 {
				if d.throw(2) == 0 {
					w.c.Fail(d.throw(200 / (j + 1)))
				} else {
					w.c.Worn(d.throw(30 / (j + 1)))
				}
				w.play(s, nil)
				s.left = 40
			}
		}
	}
}

// each does it for each config, side by side.
func each(t *testing.T, do func(t *testing.T, i int, g api.Config, bad []int)) {
	for i, x := range tight() {
		t.Run(fmt.Sprint(i), func(t *testing.T) {
			t.Parallel()
			do(t, i, x.g, x.bad)
		})
	}
}

// P10.4: a failure of each program, and of each erase, with one of the other kind close behind.
func TestEachFails(t *testing.T) {
	each(t, func(t *testing.T, i int, g api.Config, bad []int) {
		for _, behind := range []int{-1, 0, 3} {
			for n := range 120 {
				w := start(t, fmt.Sprintf("program %d fails, erase %d", n, behind), g, bad...)
				w.c.Fail(n)
				w.c.Worn(behind)
				w.play(begin(i, 10+n/3), nil)
				w = start(t, fmt.Sprintf("erase %d fails, program %d", n/3, behind), g, bad...)
				w.c.Worn(n / 3)
				w.c.Fail(behind)
				w.play(begin(i, 10+n/3), nil)
			}
		}
	})
}

// Words: at ErrDown, and when it is Over, all stops, wherever that is: what failed is the last that was done.
func TestStops(t *testing.T) {
	g := api.Config{Blocks: 6, Pages: 5, Spare: 0, Data: 12, Wear: 2}
	var ahead api.Bill // of the cut before
	erases := 0
	for n := range 200 {
		cut := start(t, fmt.Sprint("cut at ", n), g)
		from := cut.c.Bill()
		cut.c.Cut(n, 0)
		s := begin(7, 60)
		for err := api.OK; err == api.OK && s.left > 0; {
			err, _ = cut.do(s)
		}
		stopped := cost(cut.c, from)
		if !cut.c.Down() || stopped.Programs+stopped.Erases != n+1 {
			t.Fatalf("%d: %v", n, stopped)
		}
		if err := cut.p.Seal(nil, nil); err != api.ErrDown || cost(cut.c, from) != stopped {
			t.Errorf("%d: %d, %v", n, err, cost(cut.c, from))
		}
		// The same script, with a failure there in place of the cut.
		over := start(t, fmt.Sprint("over at ", n), g)
		if stopped.Programs > ahead.Programs {
			over.c.Fail(ahead.Programs)
		} else {
			over.c.Worn(ahead.Erases)
			erases++
		}
		ahead = stopped
		over.play(begin(7, 60), nil)
		bads(t, over.name, over.p, 1, true)
		if got := cost(over.c, from); got.Programs != stopped.Programs || got.Erases != stopped.Erases {
			t.Errorf("%d: %v, not %v", n, got, stopped)
		}
	}
	if erases < 20 {
		t.Errorf("%d erases only", erases)
	}
}

// P10.4 (T2, T3, T4): a cut at each program and erase, however much of it is done, and a pool on what is found then.
func TestEachCut(t *testing.T) {
	each(t, func(t *testing.T, i int, g api.Config, bad []int) {
		for _, keep := range []int{0, 1, 3, api.MaxSheet} {
			for n := range 150 {
				w := start(t, fmt.Sprintf("cut at %d, %d kept", n, keep), g, bad...)
				w.c.Cut(n, keep)
				w.play(begin(i, 12+n/4), nil)
			}
		}
	})
}

// P10.4: cut upon cut, each close behind the mount, with failures between.
func TestCuts(t *testing.T) {
	each(t, func(t *testing.T, i int, g api.Config, bad []int) {
		for n := range 100 {
			w := start(t, fmt.Sprintf("cuts from %d", n), g, bad...)
			d := dice(n)
			w.c.Cut(20+n, d.throw(6))
			left := 25
			w.play(begin(n, 60), func(w *world) {
				if left--; left > 0 {
					w.c.Cut(d.throw(1+left), d.throw(9))
				}
				if d.throw(20) == 0 {
					w.c.Fail(d.throw(9))
					w.c.Worn(d.throw(9))
				}
			})
		}
	})
}

// R6: the same calls have the same answers, and leave the same chip.
func TestSame(t *testing.T) {
	for i, x := range tight() {
		var want string
		for range 5 {
			w := start(t, fmt.Sprint(i), x.g, x.bad...)
			w.c.Fail(30)
			w.c.Worn(9)
			w.play(begin(i, 40), nil)
			if got := all(w.c, w.p); want != "" && got != want {
				t.Errorf("%d: %s, not %s", i, got, want)
			} else {
				want = got
			}
		}
	}
}

// R3: every call ends, without a panic, whatever stands on the chip, and whatever others do to it.
func TestEnds(t *testing.T) {
	each(t, func(t *testing.T, i int, g api.Config, bad []int) {
		for n := range 200 {
			d := dice(n)
			c := made(g, bad...)
			for range d.throw(2 * g.Blocks * g.Pages) {
				meddle(c, &d, g)
			}
			c.Power()
			l, seq := found(c)
			pages := map[int]int{}
			l = slices.DeleteFunc(l, func(f api.Found) bool {
				pages[f.Ref.Page]++
				return pages[f.Ref.Page] > 1 || d.throw(4) == 0
			})
			p := opened(t, c, g, len(bad), l, d.throw(seq+1))
			for range 40 {
				ask(t, p, &d)
				if d.throw(3) == 0 {
					meddle(c, &d, g)
				}
			}
		}
	})
}

// meddle does something to a chip that no pool knows of.
func meddle(c *chip.Chip, d *dice, g api.Config) {
	block := d.throw(g.Blocks)
	s := api.Sheet{Page: d.throw(30), Seq: 1 + d.throw(30), Data: []byte("meddled")}
	b, _ := sheet.Bytes(s)
	switch d.throw(20) {
	case 0:
		c.Erase(block)
	case 1:
		c.Fail(d.throw(40))
	case 2:
		c.Worn(d.throw(40))
	case 3:
		c.Cut(d.throw(90), d.throw(20))
	case 4:
		c.Power()
	case 5:
		b = b[:d.throw(len(b))]
		fallthrough
	default:
		c.Program(spot(block, c.Block(block).Next), b)
	}
}

// ask is one call; beside an error nothing else is told.
func ask(t *testing.T, p *pool.Pool, d *dice) {
	t.Helper()
	some := p.New()
	for _, f := range p.Live() {
		some = append(some, f.Ref)
	}
	some = append(some, ref(d.throw(9)-2, d.throw(9)-2))
	r := some[d.throw(len(some))]
	switch d.throw(8) {
	case 0:
		if b, err := p.Read(r); err != api.OK && len(b) > 0 {
			t.Errorf("Read: %q, %d", b, err)
		}
	case 1:
		p.Undo()
	case 2:
		live := p.Live()
		if err := p.Seal([]byte("root"), some[:d.throw(len(some))]); err != api.OK && len(p.Live()) != len(live) || len(p.New()) > 0 {
			t.Errorf("Seal: %d, %v, %v", err, p.Live(), p.New())
		}
	default:
		if r, err := p.Put(d.throw(63)-1, []byte("asked")); err != api.OK && r != (api.Ref{}) {
			t.Errorf("Put: %v, %d", r, err)
		}
	}
	if p.Seq() < 0 || p.Bads() < 0 {
		t.Errorf("%d, %d", p.Seq(), p.Bads())
	}
}
