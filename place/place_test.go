package place_test

import (
	"cmp"
	"math"
	"slices"
	"testing"

	"potsherd/api"
	"potsherd/place"
	"potsherd/turn"
)

const least, most = math.MinInt, math.MaxInt

func ref(page, seq int) api.Ref           { return api.Ref{Page: page, Seq: seq} }
func spot(block, page int) api.Spot       { return api.Spot{Block: block, Page: page} }
func found(page, seq, b, p int) api.Found { return api.Found{Ref: ref(page, seq), Spot: spot(b, p)} }

// table is one in which these were put, one by one.
func table(t *testing.T, l ...api.Found) *place.Table {
	t.Helper()
	a := place.New()
	for _, f := range l {
		if !a.Put(f.Ref, f.Spot) {
			t.Fatalf("%v: not put", f)
		}
	}
	return a
}

// model is what a table should tell, kept in another way: a list without order.
type model []api.Found

func (m model) put(r api.Ref, s api.Spot) (model, bool) {
	if s.Block <= -1 || s.Page <= -1 || slices.ContainsFunc(m, func(f api.Found) bool { return f.Spot == s && f.Ref != r }) {
		return m, false
	}
	m, _ = m.cut(r)
	return append(m, api.Found{Ref: r, Spot: s}), true
}

func (m model) cut(r api.Ref) (model, bool) {
	var rest model
	for _, f := range m {
		if f.Ref != r {
			rest = append(rest, f)
		}
	}
	return rest, len(rest) < len(m)
}

func (m model) at(r api.Ref) (api.Spot, bool) {
	for _, f := range m {
		if f.Ref == r {
			return f.Spot, true
		}
	}
	return api.Spot{}, false
}

func (m model) on(s api.Spot) (api.Ref, bool) {
	for _, f := range m {
		if f.Spot == s {
			return f.Ref, true
		}
	}
	return api.Ref{}, false
}

// all is in order: what goes ahead of a spot is counted, nothing is sorted.
func (m model) all() []api.Found {
	l := make([]api.Found, len(m))
	for _, f := range m {
		at := 0
		for _, g := range m {
			if g.Spot.Block < f.Spot.Block || g.Spot.Block == f.Spot.Block && g.Spot.Page < f.Spot.Page {
				at++
			}
		}
		l[at] = f
	}
	return l
}

func (m model) in(block int) []api.Found {
	var l []api.Found
	for _, f := range m.all() {
		if f.Spot.Block == block {
			l = append(l, f)
		}
	}
	return l
}

var blocks = []int{least, -1 << 32, -2, -1, 0, 1, 2, 3, 9, 10, 63, 64, 1 << 32, most - 1, most}

// holds asks a table all that it can tell, twice, of what is there and of these, there or not.
func holds(t *testing.T, name string, a *place.Table, m model, refs []api.Ref, spots []api.Spot) {
	t.Helper()
	for _, f := range m {
		refs, spots = append(refs, f.Ref), append(spots, f.Spot)
	}
	for range 2 {
		for _, r := range refs {
			want, there := m.at(r)
			if got, ok := a.At(r); got != want || ok != there {
				t.Errorf("%s: %v is at %v, %v, not %v, %v", name, r, got, ok, want, there)
			}
		}
		for _, s := range spots {
			want, there := m.on(s)
			if got, ok := a.On(s); got != want || ok != there {
				t.Errorf("%s: on %v is %v, %v, not %v, %v", name, s, got, ok, want, there)
			}
		}
		for _, b := range blocks {
			want := m.in(b)
			if got := a.In(b); !slices.Equal(got, want) {
				t.Errorf("%s: in %d are %v, not %v", name, b, got, want)
			}
			if got := a.Live(b); got != len(want) {
				t.Errorf("%s: live in %d are %d, not %d", name, b, got, len(want))
			}
		}
		if got := a.All(); !slices.Equal(got, m.all()) {
			t.Errorf("%s: all are %v, not %v", name, got, m.all())
		}
		if got := a.Len(); got != len(m) {
			t.Errorf("%s: %d, not %d", name, got, len(m))
		}
	}
	once(t, name, a)
}

// once: P9.2, of all that a table tells.
func once(t *testing.T, name string, a *place.Table) {
	t.Helper()
	l := a.All()
	refs, spots := map[api.Ref]int{}, map[api.Spot]int{}
	for _, f := range l {
		refs[f.Ref]++
		spots[f.Spot]++
		if s, ok := a.At(f.Ref); s != f.Spot || !ok {
			t.Errorf("%s: %v is at %v, %v", name, f, s, ok)
		}
		if r, ok := a.On(f.Spot); r != f.Ref || !ok {
			t.Errorf("%s: on the spot of %v is %v, %v", name, f, r, ok)
		}
	}
	if len(refs) != len(l) || len(spots) != len(l) || a.Len() != len(l) {
		t.Errorf("%s: %d, on %d spots, %d Refs, in %v", name, a.Len(), len(spots), len(refs), l)
	}
}

// The example.
func TestExample(t *testing.T) {
	a, r := place.New(), ref(1, 1)
	if !a.Put(r, spot(0, 1)) || !a.Put(r, spot(2, 0)) {
		t.Error("not put")
	}
	if got := a.Live(0); got != 0 {
		t.Errorf("live in 0: %d", got)
	}
	if got := a.Live(2); got != 1 {
		t.Errorf("live in 2: %d", got)
	}
}

// P9.1: a table that is new has nothing.
func TestNew(t *testing.T) {
	a := place.New()
	if a == nil {
		t.Fatal("none")
	}
	holds(t, "new", a, nil, []api.Ref{{}, ref(0, 1), ref(-1, -1)}, []api.Spot{{}, spot(1, 0), spot(-1, -1)})
	if a.Cut(api.Ref{}) || a.Cut(ref(3, 1)) {
		t.Error("cut")
	}
	holds(t, "cut from", a, nil, nil, nil)
}

// P9.1: Put, Cut, one behind the other, with all that can be told behind each.
func TestSteps(t *testing.T) {
	a, m := place.New(), model(nil)
	for _, x := range []struct {
		name string
		cut  bool
		f    api.Found
		want bool
	}{
		{"the first", false, found(1, 1, 0, 0), true},
		{"it again", false, found(1, 1, 0, 0), true},
		{"another one where it is", false, found(2, 2, 0, 0), false},
		{"the same page, another writing, where it is", false, found(1, 2, 0, 0), false},
		{"another page, the same writing, where it is", false, found(2, 1, 0, 0), false},
		{"another one beside it", false, found(2, 2, 0, 1), true},
		{"another writing of the first, in another block", false, found(1, 3, 1, 0), true},
		{"the first where the second is", false, found(1, 1, 0, 1), false},
		{"the first to elsewhere", false, found(1, 1, 2, 5), true},
		{"the second to where the first was", false, found(2, 2, 0, 0), true},
		{"the first to where the second was", false, found(1, 1, 0, 1), true},
		{"the first where the third is", false, found(1, 1, 1, 0), false},
		{"one that is not there is cut", true, found(9, 9, 0, 0), false},
		{"another writing is cut", true, found(1, 2, 0, 0), false},
		{"another page is cut", true, found(3, 1, 0, 0), false},
		{"the third is cut", true, found(1, 3, 0, 0), true},
		{"it is cut again", true, found(1, 3, 0, 0), false},
		{"the first where the third was", false, found(1, 1, 1, 0), true},
		{"the third again, elsewhere", false, found(1, 3, 0, 1), true},
		{"the third where the first is", false, found(1, 3, 1, 0), false},
		{"below block 0", false, found(1, 3, -1, 1), false},
		{"below page 0", false, found(1, 3, 0, -1), false},
		{"below both", false, found(1, 3, -1, -1), false},
		{"a new one below block 0", false, found(4, 4, -1, 0), false},
		{"the first is cut", true, found(1, 1, 0, 0), true},
		{"the second is cut", true, found(2, 2, 0, 0), true},
		{"the last is cut", true, found(1, 3, 0, 0), true},
		{"of nothing one is cut", true, found(1, 3, 0, 0), false},
		{"one behind nothing", false, found(1, 3, 3, 9), true},
	} {
		var got, want bool
		if x.cut {
			got = a.Cut(x.f.Ref)
			m, want = m.cut(x.f.Ref)
		} else {
			got = a.Put(x.f.Ref, x.f.Spot)
			m, want = m.put(x.f.Ref, x.f.Spot)
		}
		if got != x.want || want != x.want {
			t.Errorf("%s: %v, not %v", x.name, got, x.want)
		}
		holds(t, x.name, a, m, []api.Ref{x.f.Ref}, []api.Spot{x.f.Spot, spot(0, 0), spot(0, 1), spot(2, 5)})
	}
}

// P9.1: a number of a spot is not below 0, and there is no other bound; a no leaves all as it was.
func TestBounds(t *testing.T) {
	numbers := []int{least, -1 << 32, -2, -1, 0, 1, api.MaxPages - 1, api.MaxPages, api.MaxBlocks - 1, api.MaxBlocks, 1 << 32, most - 1, most}
	for _, b := range numbers {
		for _, p := range numbers {
			r, s := ref(7, 7), spot(b, p)
			start := model{found(1, 1, 0, 2), found(7, 7, 5, 5)}
			a := table(t, start...)
			want := b >= 0 && p >= 0
			if got := a.Put(r, s); got != want {
				t.Errorf("on %v: %v", s, got)
			}
			m := start
			if want {
				m = model{start[0], {Ref: r, Spot: s}}
			}
			holds(t, "a spot", a, m, []api.Ref{r}, []api.Spot{s, spot(5, 5)})
			if got := a.Put(ref(8, 8), s); got {
				t.Errorf("another on %v", s)
			}
			holds(t, "the same spot", a, m, []api.Ref{ref(8, 8)}, []api.Spot{s})
		}
	}
}

// P9.1: a Ref is any two numbers; each is one of its own.
func TestRefs(t *testing.T) {
	numbers := []int{least, -1 << 32, -1, 0, 1, 60, 61, 1 << 32, api.MaxSeq, api.MaxSeq + 1, most}
	a, m := place.New(), model(nil)
	for i, page := range numbers {
		for j, seq := range numbers {
			f := found(page, seq, i, j)
			if !a.Put(f.Ref, f.Spot) {
				t.Errorf("%v: not put", f)
			}
			m = append(m, f)
		}
	}
	holds(t, "all kinds", a, m, nil, nil)
	for len(m) > 0 {
		if !a.Cut(m[0].Ref) || a.Cut(m[0].Ref) {
			t.Errorf("%v: cut not once", m[0].Ref)
		}
		m = m[1:]
		once(t, "cut", a)
	}
	holds(t, "all are cut", a, nil, nil, nil)
}

// P9.1: a Ref of noughts, and the spot of noughts, are like others.
func TestNoughts(t *testing.T) {
	a := table(t, found(0, 0, 0, 0))
	holds(t, "noughts", a, model{{}}, nil, []api.Spot{spot(0, 1), spot(1, 0)})
	if a.Put(ref(0, 1), spot(0, 0)) || a.Put(ref(1, 0), spot(0, 0)) {
		t.Error("another is put where it is")
	}
	if !a.Put(ref(0, 0), spot(1, 0)) || !a.Put(ref(0, 1), spot(0, 0)) || a.Put(ref(0, 0), spot(0, 0)) {
		t.Error("moved")
	}
	holds(t, "moved", a, model{found(0, 1, 0, 0), found(0, 0, 1, 0)}, nil, nil)
	if !a.Cut(api.Ref{}) {
		t.Error("not cut")
	}
	holds(t, "cut", a, model{found(0, 1, 0, 0)}, []api.Ref{{}}, []api.Spot{spot(1, 0)})
}

// ordered is l in one of its orders: the digits of which say who of the rest is next.
func ordered(l []api.Found, which int) []api.Found {
	var to []api.Found
	for rest := slices.Clone(l); len(rest) > 0; {
		i := which % len(rest)
		which /= len(rest)
		to = append(to, rest[i])
		rest = slices.Delete(rest, i, i+1)
	}
	return to
}

// P9.1: In and All are ordered by block and page, as numbers, whatever was put first, whoever stands there.
func TestOrder(t *testing.T) {
	want := []api.Found{found(9, 5, 0, 2), found(1, 9, 0, 10), found(5, 5, 2, 0), found(4, 8, 2, 9), found(4, 3, 2, 31), found(0, 1, 10, 1)}
	for which := range 6 * 5 * 4 * 3 * 2 {
		l := ordered(want, which)
		a := table(t, l...)
		if got := a.All(); !slices.Equal(got, want) {
			t.Fatalf("put as %v: all are %v", l, got)
		}
		for _, x := range []struct {
			block int
			want  []api.Found
		}{{0, want[:2]}, {1, nil}, {2, want[2:5]}, {10, want[5:]}, {11, nil}, {-1, nil}} {
			if got := a.In(x.block); !slices.Equal(got, x.want) || a.Live(x.block) != len(x.want) {
				t.Fatalf("put as %v: in %d are %v, %d", l, x.block, got, a.Live(x.block))
			}
		}
	}
}

// P9.1: a chip that is full to the last page, put in many orders; then each moves one spot down, the first to the end.
func TestFull(t *testing.T) {
	var l []api.Spot
	for _, s := range turn.Spots(api.MaxBlocks, api.MaxPages) {
		l = append(l, s)
	}
	for _, step := range []int{1, 5, 1021, len(l) - 1} {
		a, want := place.New(), make([]api.Found, len(l))
		for i := range l {
			at := i * step % len(l)
			want[at] = api.Found{Ref: ref(i%61, i), Spot: l[at]}
			if !a.Put(want[at].Ref, want[at].Spot) {
				t.Fatal("not put", i)
			}
		}
		full(t, a, want)
		moved := slices.Concat(want[1:], want[:1])
		a.Put(want[0].Ref, spot(api.MaxBlocks, 0))
		for i := range moved {
			if moved[i].Spot = l[i]; !a.Put(moved[i].Ref, l[i]) {
				t.Fatal("not moved", i)
			}
		}
		full(t, a, moved)
	}
}

func full(t *testing.T, a *place.Table, want []api.Found) {
	t.Helper()
	if got := a.All(); !slices.Equal(got, want) {
		t.Fatal("not all, or not in order")
	}
	for b := range api.MaxBlocks {
		if got := a.In(b); !slices.Equal(got, want[b*api.MaxPages:(b+1)*api.MaxPages]) || a.Live(b) != api.MaxPages {
			t.Fatalf("in %d are %v", b, got)
		}
	}
	if a.Len() != len(want) || a.Live(api.MaxBlocks) != 0 || a.Live(-1) != 0 {
		t.Fatal("how many", a.Len())
	}
	once(t, "full", a)
}

// P9.2: what is put and cut, in all ways up to four steps long, leaves each Ref on one spot, and one on each.
func TestEachOnce(t *testing.T) {
	refs := []api.Ref{{}, ref(1, 4), ref(1, 5)}
	spots := []api.Spot{{}, spot(0, 1), spot(1, 0), spot(1, -1)}
	type step struct {
		cut bool
		r   api.Ref
		s   api.Spot
	}
	var steps []step
	for _, r := range refs {
		steps = append(steps, step{cut: true, r: r})
		for _, s := range spots {
			steps = append(steps, step{r: r, s: s})
		}
	}
	const long = 4
	for which := range len(steps) * len(steps) * len(steps) * len(steps) {
		a, m := place.New(), model(nil)
		for i, rest := 0, which; i < long; i, rest = i+1, rest/len(steps) {
			x := steps[rest%len(steps)]
			var got, want bool
			if x.cut {
				got = a.Cut(x.r)
				m, want = m.cut(x.r)
			} else {
				got = a.Put(x.r, x.s)
				m, want = m.put(x.r, x.s)
			}
			if got != want {
				t.Fatalf("%d, step %d: %v: %v", which, i, x, got)
			}
		}
		holds(t, "steps", a, m, refs, spots)
		if t.Failed() {
			t.Fatal("of these steps", which)
		}
	}
}

// R2: what is told is the caller's own; what was told stays as it was.
func TestOwn(t *testing.T) {
	m := model{found(1, 1, 0, 3), found(2, 2, 0, 1), found(3, 3, 1, 0)}
	a := table(t, m...)
	all, again, in := a.All(), a.All(), a.In(0)
	for i := range all {
		all[i] = found(-9, -9, -9, -9)
	}
	clear(append(all, found(8, 8, 8, 8))[:cap(all)])
	if !slices.Equal(again, m.all()) || !slices.Equal(in, m.in(0)) {
		t.Error("two lists share memory")
	}
	for i := range in {
		in[i] = found(-9, -9, -9, -9)
	}
	clear(append(in, found(8, 8, 8, 8))[:cap(in)])
	holds(t, "written into", a, m, nil, nil)
	a.Cut(ref(1, 1))
	a.Put(ref(2, 2), spot(7, 7))
	if !slices.Equal(again, m.all()) {
		t.Errorf("told earlier: %v", again)
	}
}

// R6: two tables have nothing to do with each other.
func TestApart(t *testing.T) {
	a, b := table(t, found(1, 1, 0, 0)), place.New()
	holds(t, "the other one", b, nil, []api.Ref{ref(1, 1)}, []api.Spot{{}})
	if b.Cut(ref(1, 1)) || !b.Put(ref(2, 2), spot(0, 0)) {
		t.Error("the other one")
	}
	holds(t, "one", a, model{found(1, 1, 0, 0)}, []api.Ref{ref(2, 2)}, nil)
	holds(t, "the other one", b, model{found(2, 2, 0, 0)}, []api.Ref{ref(1, 1)}, nil)
}

// R6: in whatever way a table came to be, it tells the same.
func TestWayThere(t *testing.T) {
	m := model{found(1, 1, 0, 0), found(2, 2, 0, 1)}
	a := table(t, found(2, 2, 5, 5), found(1, 1, 0, 1), found(3, 3, 0, 0))
	a.Cut(ref(3, 3))
	a.Put(ref(1, 1), spot(0, 0))
	a.Put(ref(2, 2), spot(0, 0))
	a.Put(ref(2, 2), spot(0, 1))
	holds(t, "straight", table(t, m...), m, nil, nil)
	holds(t, "about", a, m, []api.Ref{ref(3, 3)}, []api.Spot{spot(5, 5)})
}

// P9.1, R3: a nil table tells zero values, and nothing panics.
func TestNil(t *testing.T) {
	var a *place.Table
	for _, b := range blocks {
		for _, p := range blocks {
			if a.Put(ref(b, p), spot(b, p)) || a.Cut(ref(b, p)) {
				t.Error("a nil table: put, or cut")
			}
		}
	}
	holds(t, "nil", a, nil, []api.Ref{{}, ref(1, 1)}, []api.Spot{{}, spot(-1, 1)})
}

// R3: a table that was made without New is one of nothing.
func TestMadeWithoutNew(t *testing.T) {
	var a place.Table
	holds(t, "without New", &a, nil, []api.Ref{{}, ref(1, 1)}, []api.Spot{{}, spot(-1, 1)})
	if a.Cut(api.Ref{}) || a.Put(api.Ref{}, spot(0, -1)) || !a.Put(ref(1, 1), spot(0, 1)) || !a.Put(ref(1, 1), spot(2, 0)) {
		t.Error("without New")
	}
	holds(t, "without New", &a, model{found(1, 1, 2, 0)}, []api.Ref{{}}, []api.Spot{spot(0, 1)})
	if !a.Cut(ref(1, 1)) {
		t.Error("without New: not cut")
	}
	holds(t, "without New", &a, nil, []api.Ref{ref(1, 1)}, []api.Spot{spot(2, 0)})
}

// R3: no call panics, whatever is handed in, and what a far spot is asked is told as of others.
func TestNoPanic(t *testing.T) {
	a := place.New()
	for _, x := range blocks {
		for _, y := range blocks {
			a.Put(ref(x, y), spot(y, x))
			a.At(ref(y, x))
			a.On(spot(x, y))
			a.Live(x)
			a.In(y)
			once(t, "far", a)
		}
	}
	sorted := slices.IsSortedFunc(a.All(), func(f, g api.Found) int {
		if f.Spot.Block != g.Spot.Block {
			return cmp.Compare(f.Spot.Block, g.Spot.Block)
		}
		return cmp.Compare(f.Spot.Page, g.Spot.Page)
	})
	if !sorted || a.Len() != 11*11 {
		t.Error(a.Len(), a.All())
	}
	for _, x := range blocks {
		for _, y := range blocks {
			if got := a.Cut(ref(x, y)); got != (x >= 0 && y >= 0) {
				t.Error(x, y, got)
			}
		}
	}
	holds(t, "far", a, nil, nil, nil)
}
