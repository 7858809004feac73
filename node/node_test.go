package node_test

import (
	"fmt"
	"math"
	"reflect"
	"slices"
	"strings"
	"testing"

	"potsherd/api"
	"potsherd/name"
	"potsherd/node"
	"potsherd/sheet"
)

const far = 1 << 32 // beyond 32 bits: a number that is cut off there looks like a small one

// kinds are all that are, and some that are none.
var kinds = []int{0, 1, 2, 3, 4, 5, -1, -2, far, far + 1, far + 2, math.MaxInt, math.MinInt}

// rows are entries of these names, the first of node 1, the next of node 2, and, behind node 11, of node 1 again.
func rows(names ...string) []api.Entry {
	var l []api.Entry
	for i, s := range names {
		l = append(l, api.Entry{Name: s, Node: 1 + i%11})
	}
	return l
}

func file(links, size int, seqs ...int) api.Node {
	return api.Node{Kind: 1, Links: links, Size: size, Seqs: seqs}
}

func folder(entries ...api.Entry) api.Node {
	return api.Node{Kind: 2, Links: 1, Entries: entries}
}

// is says which nodes may be, in another way than node does: of each kind there is a text of what it must look like.
func is(n api.Node) bool {
	switch n.Kind {
	case 0:
		return show(n) == "0 0 0 [] []"
	case 1:
		if len(n.Seqs) != 5 || len(n.Entries) != 0 || n.Links < 0 || n.Links > 120 || n.Size < 0 || n.Size > 80 {
			return false
		}
		// The first byte of each page that there is must be one of the file's.
		bytes := make([]bool, 80)
		for i := range n.Size {
			bytes[i] = true
		}
		for i, first := range []int{0, 16, 32, 48, 64} {
			if n.Seqs[i] < 0 || n.Seqs[i] > 1099511627776 || n.Seqs[i] > 0 && !bytes[first] {
				return false
			}
		}
		return true
	case 2:
		return name.May(n.Entries) && show(api.Node{Kind: n.Kind, Links: n.Links, Size: n.Size, Seqs: n.Seqs}) == "2 1 0 [] []"
	}
	return false
}

// refs is what Refs should tell, by the number that the sheet of each page has.
func refs(i int, n api.Node) []api.Ref {
	var l []api.Ref
	if n.Kind != 1 || !is(n) || i < 0 || i > 11 {
		return nil
	}
	for p := range 5 {
		if n.Seqs[p] > 0 {
			l = append(l, api.Ref{Page: sheet.Number(i, p), Seq: n.Seqs[p]})
		}
	}
	return l
}

func show(n api.Node) string {
	var l []string
	for _, e := range n.Entries {
		l = append(l, fmt.Sprintf("%.20q %d", e.Name, e.Node))
	}
	return fmt.Sprint(n.Kind, n.Links, n.Size, n.Seqs, l)
}

// deep is a copy with memory of its own, not made by node.
func deep(n api.Node) api.Node {
	n.Seqs = append([]int{}, n.Seqs...)
	n.Entries = append([]api.Entry{}, n.Entries...)
	return n
}

// looks: what the calls that ask one node tell, each asked twice; they leave it as it was.
func looks(t *testing.T, n api.Node) {
	t.Helper()
	was := show(n)
	for range 2 {
		if got := node.May(n); got != is(n) {
			t.Errorf("May(%s): %t", was, got)
		}
		if got, want := node.Pages(n), len(refs(0, n)); got != want {
			t.Errorf("Pages(%s): %d, not %d", was, got, want)
		}
		for _, i := range []int{-1, 0, 1, 7, 11, 12} {
			if got, want := node.Refs(i, n), refs(i, n); !slices.Equal(got, want) {
				t.Errorf("Refs(%d, %s): %v, not %v", i, was, got, want)
			}
		}
		if got := show(node.Copy(n)); got != was {
			t.Errorf("Copy(%s): %s", was, got)
		}
		if !node.Same(n, n) || !node.Same(n, deep(n)) || !node.Same(deep(n), n) {
			t.Errorf("Same(%s) of itself: no", was)
		}
	}
	if got := show(n); got != was {
		t.Errorf("%s was made %s", was, got)
	}
}

// may: whether it may be is told here, not by the model.
func may(t *testing.T, want bool, l ...api.Node) {
	t.Helper()
	for _, n := range l {
		if got := node.May(n); got != want {
			t.Errorf("May(%s): %t", show(n), got)
		}
		looks(t, n)
	}
}

// dice tells numbers that look like none in particular, the same each time.
type dice uint64

func (d *dice) below(n int) int {
	*d = *d*6364136223846793005 + 1442695040888963407
	return int(uint64(*d)>>33) % n
}

// The chapter's example.
func TestExample(t *testing.T) {
	n := node.Empty(api.KFile)
	if got := node.Pages(n); got != 0 {
		t.Errorf("%d pages", got)
	}
	if got := node.Refs(3, n); len(got) != 0 {
		t.Errorf("%v", got)
	}
	if !node.May(n) {
		t.Error("it may not be")
	}
}

// P14.1: Empty, of each kind, and of what is none.
func TestEmpty(t *testing.T) {
	for _, kind := range kinds {
		want := "0 0 0 [] []"
		switch kind {
		case 1:
			want = "1 1 0 [0 0 0 0 0] []"
		case 2:
			want = "2 1 0 [] []"
		}
		for range 2 {
			if got := show(node.Empty(kind)); got != want {
				t.Errorf("Empty(%d): %s", kind, got)
			}
		}
		// What is no kind is told as a node that is none, and that may be.
		may(t, true, node.Empty(kind))
	}
}

// P14.1: of KNone all else is zero: each field that is not is enough; a list that is there, but empty, is as good as none.
func TestNone(t *testing.T) {
	may(t, true, api.Node{}, api.Node{Seqs: []int{}}, api.Node{Entries: []api.Entry{}}, api.Node{Seqs: []int{}, Entries: []api.Entry{}}, api.Node{Seqs: make([]int, 0, 5), Entries: rows("a")[:0]})
	may(t, false, api.Node{Links: 1}, api.Node{Links: -1}, api.Node{Links: far}, api.Node{Size: 1}, api.Node{Size: -1}, api.Node{Size: math.MinInt},
		api.Node{Seqs: []int{0}}, api.Node{Seqs: make([]int, 5)}, api.Node{Seqs: []int{1}}, api.Node{Seqs: []int{-1}}, api.Node{Entries: rows("a")}, api.Node{Entries: []api.Entry{{}}})
}

// P14.1: of what is no kind none may be, whatever else it has.
func TestKinds(t *testing.T) {
	for _, kind := range kinds {
		for _, n := range []api.Node{{}, file(1, 0, 0, 0, 0, 0, 0), file(2, 20, 3, 4, 0, 0, 0), folder(), folder(rows("a", "b")...)} {
			want := n.Kind == kind
			n.Kind = kind
			may(t, want, n)
		}
	}
}

// P14.1: Links of a file, 0 to 120, from both sides; of a directory 1 alone.
func TestLinks(t *testing.T) {
	links := []int{math.MinInt, -far, -far + 1, -2, -1, 121, 122, 255, 256, 257, far, far + 1, far + 120, math.MaxInt}
	for i := range 121 {
		links = append(links, i)
	}
	for _, n := range links {
		is := n >= 0 && n <= 120
		may(t, is, file(n, 0, 0, 0, 0, 0, 0), file(n, 80, 1, 2, 3, 4, 5), file(n, 17, 0, 9, 0, 0, 0))
		for _, l := range [][]api.Entry{nil, rows("a"), rows("0", "1", "2", "3", "4", "5", "6", "7", "8", "9")} {
			d := folder(l...)
			d.Links = n
			may(t, n == 1, d)
		}
	}
}

// P14.1: Size of a file, 0 to 80, from both sides; of a directory 0 alone.
func TestSize(t *testing.T) {
	sizes := []int{math.MinInt, -far, -far + 1, -17, -16, -2, -1, 81, 82, 95, 96, 97, 256, 257, far, far + 1, far + 80, math.MaxInt}
	for i := range 81 {
		sizes = append(sizes, i)
	}
	for _, n := range sizes {
		is := n >= 0 && n <= 80
		may(t, is, file(1, n, 0, 0, 0, 0, 0), file(0, n, 0, 0, 0, 0, 0), file(120, n, 0, 0, 0, 0, 0))
		for _, l := range [][]api.Entry{nil, rows("a", "b")} {
			d := folder(l...)
			d.Size = n
			may(t, n == 0, d)
		}
	}
}

// P14.1, P14.2, P14.3: each size with each set of pages: just those may be whose last page begins below the size.
func TestPageBeginsAtSize(t *testing.T) {
	several := 0
	for size := range 81 {
		for set := range 32 {
			n := file(1, size, 0, 0, 0, 0, 0)
			pages, last := 0, -1
			var want []api.Ref
			for p := range 5 {
				if set>>p&1 == 1 {
					pages, last = pages+1, p
					n.Seqs[p] = 100 + p
					want = append(want, api.Ref{Page: 1 + 5*7 + p, Seq: 100 + p})
				}
			}
			is := last == -1 || 16*last < size
			may(t, is, n)
			if !is {
				pages, want = 0, nil
				several++
			}
			if got := node.Pages(n); got != pages {
				t.Errorf("Pages(%s): %d", show(n), got)
			}
			if got := node.Refs(7, n); !slices.Equal(got, want) {
				t.Errorf("Refs(7, %s): %v", show(n), got)
			}
		}
	}
	// By hand: of size 0 all sets but the empty one; of 1 to 16 all but 2; of 17 to 32 all but 4; and so on.
	if want := 31 + 16*(30+28+24+16); several != want {
		t.Errorf("%d may not be, not %d", several, want)
	}
}

// P14.1, P14.3: of each page, the size that it begins at, and those at its sides.
func TestEdges(t *testing.T) {
	for p := range 5 {
		seqs := make([]int, 5)
		seqs[p] = 1
		may(t, true, file(1, 16*p+1, seqs...), file(1, 80, seqs...))
		may(t, false, file(1, 16*p, seqs...), file(1, 0, seqs...))
		if p > 0 {
			may(t, false, file(1, 16*p-1, seqs...), file(1, 1, seqs...))
		}
	}
}

// P14.1: 5 Seqs, from both sides; none of a directory.
func TestHowManySeqs(t *testing.T) {
	for n := range 20 {
		for _, seq := range []int{0, 1, 7} {
			l := slices.Repeat([]int{seq}, n)
			may(t, n == 5, file(1, 80, l...))
			if seq == 0 {
				may(t, n == 5, file(1, 0, l...))
			}
			d := folder()
			d.Seqs = l
			may(t, n == 0, d)
			d.Entries = rows("a", "b")
			may(t, n == 0, d)
		}
	}
}

// P14.1: each Seq, 0 to 2^40, from both sides, at each place, whatever the size.
func TestSeqs(t *testing.T) {
	const most = 1099511627776
	for _, seq := range []int{math.MinInt, -most, -far, -2, -1, 0, 1, 2, 127, 128, far - 1, far, far + 1, most - 1, most, most + 1, most + 2, 2 * most, 1 << 48, math.MaxInt} {
		for p := range 5 {
			for _, size := range []int{0, 1, 16, 17, 32, 33, 48, 49, 64, 65, 79, 80} {
				n := file(1, size, 0, 0, 0, 0, 0)
				n.Seqs[p] = seq
				may(t, seq == 0 || seq > 0 && seq <= most && 16*p < size, n)
				for q := range 5 {
					if q != p && 16*q < size {
						n.Seqs[q] = 3
					}
				}
				may(t, seq == 0 || seq > 0 && seq <= most && 16*p < size, n)
			}
		}
	}
	// Two pages may say the same number: that is dir's to ask.
	may(t, true, file(1, 80, most, most, most, most, most), file(1, 80, 1, 1, 1, 1, 1), file(1, 80, 5, 4, 3, 2, 1))
}

// P14.1: of a file no Entries, also of those that a directory may have.
func TestFileEntries(t *testing.T) {
	for _, l := range [][]api.Entry{nil, {}, {{}}, rows("a"), rows("a", "b"), rows("b", "a"), rows("A")} {
		for _, n := range []api.Node{file(1, 0, 0, 0, 0, 0, 0), file(1, 80, 1, 2, 3, 4, 5)} {
			n.Entries = l
			may(t, len(l) == 0, n)
		}
	}
}

// P14.1: a directory's Entries are those that name.May says: how many, how they rise, names, nodes, wherever they stand.
func TestDirEntries(t *testing.T) {
	names := []string{"-", "-.", ".-", "...", ".a", "0", "00", "_", "a", "aaaaaaaa", "ab", "b"}
	for n := range len(names) + 1 {
		may(t, n <= 10, folder(rows(names[:n]...)...))
		for at := range min(n, 10) {
			for _, x := range []struct {
				e    api.Entry
				want bool
			}{
				{api.Entry{Name: names[at], Node: 0}, false}, {api.Entry{Name: names[at], Node: 1}, true}, {api.Entry{Name: names[at], Node: 11}, true}, {api.Entry{Name: names[at], Node: 12}, false}, {api.Entry{Name: names[at], Node: -1}, false}, {api.Entry{Name: names[at], Node: far + 1}, false},
				{api.Entry{Name: "", Node: 1}, false}, {api.Entry{Name: ".", Node: 1}, false}, {api.Entry{Name: "..", Node: 1}, false}, {api.Entry{Name: "/", Node: 1}, false}, {api.Entry{Name: "B", Node: 1}, false}, {api.Entry{Name: "aaaaaaaaa", Node: 1}, false},
			} {
				l := rows(names[:n]...)
				l[at] = x.e
				may(t, x.want && n <= 10, folder(l...))
			}
			if at > 0 {
				l := rows(names[:n]...)
				l[at].Name = l[at-1].Name
				may(t, false, folder(l...))
				l[at].Name, l[at-1].Name = names[at-1], names[at]
				may(t, false, folder(l...))
			}
		}
	}
	may(t, true, folder(), folder([]api.Entry{}...), folder(api.Entry{Name: "a", Node: 3}, api.Entry{Name: "b", Node: 3}))
}

// several are nodes of which no two are alike; some may not be.
func several() []api.Node {
	return []api.Node{
		{}, {Kind: 3}, {Kind: -1}, {Links: 1}, {Size: 1}, {Seqs: []int{0}}, {Seqs: make([]int, 5)}, {Entries: rows("a")}, {Entries: []api.Entry{{}}}, {Kind: 1}, {Kind: 1, Links: 1},
		file(1, 0, 0, 0, 0, 0, 0), file(0, 0, 0, 0, 0, 0, 0), file(2, 0, 0, 0, 0, 0, 0), file(1+far, 0, 0, 0, 0, 0, 0), file(1, 1, 0, 0, 0, 0, 0), file(1, far, 0, 0, 0, 0, 0), file(-1, 1, 0, 0, 0, 0, 0),
		file(1, 80, 1, 2, 3, 4, 5), file(1, 80, 9, 2, 3, 4, 5), file(1, 80, 1, 9, 3, 4, 5), file(1, 80, 1, 2, 9, 4, 5), file(1, 80, 1, 2, 3, 9, 5), file(1, 80, 1, 2, 3, 4, 9), file(1, 80, 2, 1, 3, 4, 5), file(1, 80, 1+far, 2, 3, 4, 5),
		file(1, 80, 1, 2, 3, 4), file(1, 80, 2, 3, 4, 5), file(1, 80, 1, 2, 3, 4, 5, 6), file(1, 80, 1, 2, 3, 4, 5, 0), file(1, 80), file(1, 80, 0), {Kind: 1, Links: 1, Size: 80, Seqs: []int{1, 2, 3, 4, 5}, Entries: rows("a")},
		folder(), folder(rows("a")...), folder(rows("b")...), folder(rows("A")...), folder(rows("")...), folder(rows("aa")...), folder(rows("a", "b")...), folder(rows("b", "a")...), folder(rows("a", "a")...), folder(rows("a", "b", "c")...), folder(api.Entry{Name: "a", Node: 2}), folder(api.Entry{Name: "a"}), folder(api.Entry{}), folder(api.Entry{Name: "a", Node: 1 + far}),
		folder(api.Entry{Name: "a", Node: 1}, api.Entry{Name: "b", Node: 1}), folder(api.Entry{Name: "a", Node: 2}, api.Entry{Name: "b", Node: 1}), folder(rows("0", "1", "2", "3", "4", "5", "6", "7", "8", "9")...), folder(rows("0", "1", "2", "3", "4", "5", "6", "7", "8", "a")...),
		{Kind: 2}, {Kind: 2, Links: 2}, {Kind: 2, Links: 1, Size: 1}, {Kind: 2, Links: 1, Seqs: []int{0}},
	}
}

// P14.1: Same says yes of just those that are alike in all, whether they may be or not; all pairs, from either side.
func TestSame(t *testing.T) {
	a, b := several(), several()
	for i, x := range a {
		looks(t, x)
		for j, y := range b {
			wasX, wasY := show(x), show(y)
			if got := node.Same(x, y); got != (i == j) {
				t.Errorf("Same(%s, %s): %t", show(x), show(y), got)
			}
			if show(x) != wasX || show(y) != wasY {
				t.Errorf("%s, %s were made %s, %s", wasX, wasY, show(x), show(y))
			}
		}
	}
}

// P14.1, R2: nil and empty lists are one.
func TestSameNil(t *testing.T) {
	for _, n := range several() {
		if len(n.Seqs) > 0 && len(n.Entries) > 0 {
			continue
		}
		a, b := n, n
		if len(n.Seqs) == 0 {
			a.Seqs, b.Seqs = nil, []int{}
		}
		if len(n.Entries) == 0 {
			a.Entries, b.Entries = nil, []api.Entry{}
		}
		if !node.Same(a, b) || !node.Same(b, a) {
			t.Errorf("%s: not the same", show(n))
		}
		if node.May(a) != node.May(b) {
			t.Errorf("%s: may be the one way, not the other", show(n))
		}
	}
}

// P14.1: what Copy tells is alike in all, also of what may not be.
func TestCopy(t *testing.T) {
	for _, n := range several() {
		was := show(n)
		got := node.Copy(n)
		if show(got) != was || !node.Same(got, n) || node.May(got) != node.May(n) {
			t.Errorf("Copy(%s): %s", was, show(got))
		}
	}
}

// P14.2: the pages of each node have numbers of their own, those that chapter 5 says: together they are 1 to 60.
func TestNumbers(t *testing.T) {
	n := file(1, 80, 11, 22, 33, 44, 55)
	next := 1
	for i := range 12 {
		got := node.Refs(i, n)
		if len(got) != 5 || node.Pages(n) != 5 {
			t.Fatalf("Refs(%d): %v", i, got)
		}
		for p, r := range got {
			whose, page := sheet.Split(r.Page)
			if r.Page != next || whose != i || page != p || r.Seq != n.Seqs[p] {
				t.Errorf("Refs(%d): page %d: %v", i, p, r)
			}
			next++
		}
	}
	if next != 61 {
		t.Errorf("%d pages", next-1)
	}
}

// P14.2: i is 0 to 11, from both sides.
func TestWhose(t *testing.T) {
	n := file(0, 33, 9, 0, 1<<40, 0, 0)
	for _, i := range []int{math.MinInt, math.MinInt + 1, -far, -far + 3, -12, -2, -1, 12, 13, 24, 60, 256, far, far + 3, math.MaxInt / 5, math.MaxInt/5 + 1, math.MaxInt - 1, math.MaxInt} {
		if got := node.Refs(i, n); len(got) != 0 {
			t.Errorf("Refs(%d): %v", i, got)
		}
	}
	for i := range 12 {
		want := []api.Ref{{Page: 1 + 5*i, Seq: 9}, {Page: 3 + 5*i, Seq: 1 << 40}}
		if got := node.Refs(i, n); !slices.Equal(got, want) {
			t.Errorf("Refs(%d): %v, not %v", i, got, want)
		}
	}
}

// P14.2: of what may not be, or is no file, there are no pages: one wrong thing is enough.
func TestNoPages(t *testing.T) {
	entries := file(1, 80, 1, 2, 3, 4, 5)
	entries.Entries = rows("a")
	none, dir, odd := file(1, 80, 1, 2, 3, 4, 5), file(1, 80, 1, 2, 3, 4, 5), file(1, 80, 1, 2, 3, 4, 5)
	none.Kind, dir.Kind, odd.Kind = 0, 2, 3
	for _, n := range []api.Node{
		{}, folder(), folder(rows("a", "b")...), entries, none, dir, odd,
		file(-1, 80, 1, 2, 3, 4, 5), file(121, 80, 1, 2, 3, 4, 5), file(1, -1, 1, 2, 3, 4, 5), file(1, 81, 1, 2, 3, 4, 5), file(1, 64, 1, 2, 3, 4, 5), file(1, 0, 1, 0, 0, 0, 0),
		file(1, 80, 1, 2, 3, 4), file(1, 80, 1, 2, 3, 4, 5, 6), file(1, 80), file(1, 80, -1, 2, 3, 4, 5), file(1, 80, 1, 2, 3, 4, -5), file(1, 80, 1, 2, 3, 4, 1<<40+1), file(1, 80, 1<<40+1, 0, 0, 0, 0),
	} {
		if got := node.Pages(n); got != 0 {
			t.Errorf("Pages(%s): %d", show(n), got)
		}
		for i := range 12 {
			if got := node.Refs(i, n); len(got) != 0 {
				t.Errorf("Refs(%d, %s): %v", i, show(n), got)
			}
		}
	}
}

// R2: what stands behind a list's length is neither looked at nor written.
func TestBehind(t *testing.T) {
	for size := range 82 {
		for _, junk := range []int{0, 1, -1, math.MaxInt} {
			seqs := []int{0, 0, 0, 0, 0, junk, junk}
			for n := range 7 {
				was := slices.Clone(seqs)
				looks(t, file(1, size, seqs[:n]...))
				looks(t, api.Node{Seqs: seqs[:n]})
				if !slices.Equal(seqs, was) {
					t.Errorf("%v made %v", was, seqs)
				}
			}
		}
	}
	for n := range 13 {
		l := rows("0", "1", "2", "3", "4", "5", "6", "7", "8", "9", "a", "A", "")
		was := slices.Clone(l)
		looks(t, folder(l[:n]...))
		looks(t, api.Node{Entries: l[:n]})
		if !slices.Equal(l, was) {
			t.Errorf("%v made %v", was, l)
		}
	}
	a := file(1, 80, []int{1, 2, 3, 4, 5, 6}[:5]...)
	b := file(1, 80, []int{1, 2, 3, 4, 5, 7}[:5]...)
	if !node.Same(a, b) {
		t.Error("what is behind the length is held against each other")
	}
}

// spoil writes over a node's lists, and over all that their memory has room for.
func spoil(n api.Node) {
	seqs, entries := n.Seqs[:cap(n.Seqs)], n.Entries[:cap(n.Entries)]
	for i := range seqs {
		seqs[i] = -9
	}
	for i := range entries {
		entries[i] = api.Entry{Name: "spoilt", Node: -9}
	}
}

// R2: what Copy tells is new memory: neither changes with the other, not even behind its length.
func TestCopyNew(t *testing.T) {
	for i, n := range several() {
		seqs, entries := append(slices.Clone(n.Seqs), 1, 2, 3), append(slices.Clone(n.Entries), rows("x", "y")...)
		wasSeqs, wasEntries := slices.Clone(seqs), slices.Clone(entries)
		n.Seqs, n.Entries = seqs[:len(n.Seqs)], entries[:len(n.Entries)]
		a, b := node.Copy(n), node.Copy(n)
		was := show(n)
		spoil(a)
		if !slices.Equal(seqs, wasSeqs) || !slices.Equal(entries, wasEntries) || show(b) != was {
			t.Errorf("%d: %s: with a copy of it %s, and another %s", i, was, show(n), show(b))
		}
		spoil(n)
		if show(b) != was {
			t.Errorf("%d: %s: its copy is %s", i, was, show(b))
		}
	}
}

// R2: each answer of Empty, and of Refs, is a new one.
func TestNew(t *testing.T) {
	for _, kind := range kinds {
		want := show(node.Empty(kind))
		a, b := node.Empty(kind), node.Empty(kind)
		spoil(a)
		if show(b) != want || show(node.Empty(kind)) != want {
			t.Errorf("Empty(%d): %s, %s", kind, show(b), show(node.Empty(kind)))
		}
	}
	n := file(1, 80, 1, 0, 3, 4, 0)
	want := refs(2, n)
	a, b := node.Refs(2, n), node.Refs(2, n)
	a = a[:cap(a)]
	for i := range a {
		a[i] = api.Ref{Page: -9, Seq: -9}
	}
	if !slices.Equal(b, want) || !slices.Equal(node.Refs(2, n), want) {
		t.Errorf("Refs: %v", b)
	}
	spoil(n)
	if !slices.Equal(b, want) {
		t.Errorf("Refs: %v", b)
	}
}

// R3: lists and names that are long.
func TestLong(t *testing.T) {
	seqs, entries := slices.Repeat([]int{0}, 1<<21), slices.Repeat(rows("a", "b"), 1<<20)
	long := strings.Repeat("a", 1<<24)
	for _, n := range []api.Node{{Seqs: seqs}, {Entries: entries}, {Kind: 1, Links: 1, Seqs: seqs}, {Kind: 1, Links: 1, Seqs: make([]int, 5), Entries: entries}, {Kind: 2, Links: 1, Seqs: seqs}, {Kind: 2, Links: 1, Entries: entries}, {Kind: 2, Links: 1, Entries: rows(long)}, {Kind: 3, Seqs: seqs, Entries: entries}} {
		c := node.Copy(n)
		if node.May(n) || node.Pages(n) != 0 || len(node.Refs(1, n)) != 0 || !node.Same(n, c) || len(c.Seqs) != len(n.Seqs) || len(c.Entries) != len(n.Entries) {
			t.Errorf("kind %d, %d Seqs, %d entries", n.Kind, len(n.Seqs), len(n.Entries))
		}
		if len(c.Seqs) > 0 {
			c.Seqs[len(c.Seqs)-1]++
		} else {
			c.Entries[len(c.Entries)-1].Name += "b"
		}
		if node.Same(n, c) {
			t.Errorf("kind %d: the last one of a long list does not matter", n.Kind)
		}
	}
}

// some tells a node that looks like none in particular; most may be.
func some(d *dice) api.Node {
	n := api.Node{Kind: d.below(3)}
	switch n.Kind {
	case 1:
		n.Links, n.Size, n.Seqs = d.below(121), d.below(81), make([]int, 5)
		for p := range n.Seqs {
			if d.below(2) == 0 && 16*p < n.Size {
				n.Seqs[p] = d.below(100)
			}
		}
	case 2:
		n.Links, n.Entries = 1, rows("0", "1", "2", "3", "4", "5", "6", "7", "8", "9")[:d.below(11)]
	}
	switch d.below(16) {
	case 0:
		n.Links = d.below(130) - 3
	case 1:
		n.Size = d.below(90) - 3
	case 2:
		n.Seqs = make([]int, d.below(8))
	case 3:
		n.Entries = rows("a", "b", "A", "a")[:d.below(5)]
	case 4:
		n.Kind = d.below(5) - 1
	case 5:
		if len(n.Seqs) > 0 {
			n.Seqs[d.below(len(n.Seqs))] = d.below(5) - 2
		}
	}
	return n
}

// R3: whatever is handed in, each call ends, and tells what it should; P14.3: no page that is told begins behind the end.
func TestAnything(t *testing.T) {
	d := dice(1)
	mays, pages := 0, 0
	last := api.Node{}
	for range 100000 {
		n := some(&d)
		looks(t, n)
		if got, want := node.Same(n, last), reflect.DeepEqual(deep(n), deep(last)); got != want {
			t.Errorf("Same(%s, %s): %t", show(n), show(last), got)
		}
		last = n
		if !node.May(n) {
			continue
		}
		mays++
		i := d.below(12)
		for _, r := range node.Refs(i, n) {
			pages++
			if whose, page := sheet.Split(r.Page); whose != i || 16*page >= n.Size || r.Seq < 1 {
				t.Errorf("%s: %v", show(n), r)
			}
		}
	}
	if mays < 60000 || mays > 95000 || pages < 20000 {
		t.Errorf("%d may be, with %d pages", mays, pages)
	}
}
