package dir_test

import (
	"fmt"
	"math"
	"slices"
	"strings"
	"testing"

	"potsherd/api"
	"potsherd/dir"
	"potsherd/node"
	"potsherd/path"
)

const far = 1 << 32 // beyond 32 bits: a number that is cut off there looks like a small one

// row is entries, each written as its name, '=' and its node.
func row(entries ...string) []api.Entry {
	var l []api.Entry
	for _, s := range entries {
		var e api.Entry
		at := strings.LastIndex(s, "=")
		e.Name = s[:at]
		fmt.Sscan(s[at+1:], &e.Node)
		l = append(l, e)
	}
	return l
}

func folder(entries ...string) api.Node {
	return api.Node{Kind: 2, Links: 1, Entries: row(entries...)}
}

// file is one of so many links, and as large as its pages ask for.
func file(links int, seqs ...int) api.Node {
	n := api.Node{Kind: 1, Links: links, Seqs: make([]int, 5)}
	copy(n.Seqs, seqs)
	n.Size = 16 * len(seqs)
	return n
}

// tree is these nodes, and none behind them.
func tree(nodes ...api.Node) api.Tree {
	return api.Tree{Nodes: append(slices.Clone(nodes), make([]api.Node, max(0, 12-len(nodes)))...)}
}

// chain is directories, each but the last with the next one in it, by that name.
func chain(name string, many int) api.Tree {
	nodes := slices.Repeat([]api.Node{folder()}, many)
	for i := range many - 1 {
		nodes[i] = folder(fmt.Sprint(name, "=", i+1))
	}
	return tree(nodes...)
}

// known is a tree with something of each kind: directories in directories, an empty one, a file of three names, one without a name, and nodes that are none between.
func known() api.Tree {
	return tree(
		folder("a=4", "a-=2", "f=7", "z=10"), // 0: /
		api.Node{},                           // 1
		folder("b=3", "f=7"),                 // 2: /a-
		folder(),                             // 3: /a-/b
		folder("c=5", "g=9"),                 // 4: /a
		folder("f=7"),                        // 5: /a/c
		api.Node{},                           // 6
		file(3, 7, 0, 9),                     // 7: /f, /a-/f, /a/c/f
		file(0, 4),                           // 8: without a name
		file(1),                              // 9: /a/g
		folder("00000000=11"),                // 10: /z
		file(1, 1, 2, 3, 5, 1<<40),           // 11: /z/00000000
	)
}

func show(t api.Tree) string {
	var s strings.Builder
	for i, n := range t.Nodes {
		if n.Kind == 0 && n.Links == 0 && n.Size == 0 && len(n.Seqs) == 0 && len(n.Entries) == 0 {
			continue
		}
		fmt.Fprintf(&s, "%d: %d %d %d %v", i, n.Kind, n.Links, n.Size, n.Seqs)
		for _, e := range n.Entries {
			fmt.Fprintf(&s, " %.20q=%d", e.Name, e.Node)
		}
		s.WriteString("; ")
	}
	return fmt.Sprint(s.String(), len(t.Nodes))
}

// deep is a copy with memory of its own, not made by dir.
func deep(t api.Tree) api.Tree {
	var c api.Tree
	for _, n := range t.Nodes {
		n.Seqs = append([]int{}, n.Seqs...)
		n.Entries = append([]api.Entry{}, n.Entries...)
		c.Nodes = append(c.Nodes, n)
	}
	return c
}

// from says to which nodes one comes from each directory, by steps of one entry more till there are no more of them; how deep nothing asks.
func from(t api.Tree) [12][12]bool {
	var come [12][12]bool
	for i, n := range t.Nodes {
		come[i][i] = n.Kind == 2
	}
	for more := true; more; {
		more = false
		for a := range 12 {
			for b := range 12 {
				for _, e := range t.Nodes[b].Entries {
					if come[a][b] && !come[a][e.Node] {
						come[a][e.Node], more = true, true
					}
				}
			}
		}
	}
	return come
}

// is says which trees may be, in another way than dir does: each entry gives its node a name.
func is(t api.Tree) bool {
	if len(t.Nodes) != 12 {
		return false
	}
	var names [12]int
	seqs := map[int]int{}
	for _, n := range t.Nodes {
		if !node.May(n) {
			return false
		}
		for _, e := range n.Entries {
			names[e.Node]++
		}
		for _, seq := range n.Seqs {
			seqs[seq]++
		}
	}
	for seq, many := range seqs {
		if seq != 0 && many > 1 {
			return false
		}
	}
	come := from(t)
	for i, n := range t.Nodes {
		switch {
		case i == 0 && n.Kind != 2, n.Kind == 0 && names[i] > 0, n.Kind == 1 && names[i] != n.Links, n.Kind == 2 && i > 0 && names[i] != 1, n.Kind == 2 && !come[0][i]:
			return false
		}
	}
	return true
}

// all is the node of each path that there is, however long, of a tree that may be.
func all(t api.Tree) map[string]int {
	m := map[string]int{"/": 0}
	for more := map[string]int{"": 0}; len(more) > 0; {
		next := map[string]int{}
		for s, i := range more {
			for _, e := range t.Nodes[i].Entries {
				m[s+"/"+e.Name], next[s+"/"+e.Name] = e.Node, e.Node
			}
		}
		more = next
	}
	return m
}

// walked is what Walk should tell: the paths, by their names. (Not by their bytes: '-' and '.' are ahead of '/'.)
func walked(m map[string]int) []string {
	var l []string
	for s := range m {
		if s != "/" && len(s) <= 60 {
			l = append(l, s)
		}
	}
	slices.SortFunc(l, func(a, b string) int {
		return slices.Compare(strings.Split(a, "/"), strings.Split(b, "/"))
	})
	return l
}

// found is what Find should tell, by what there is: of a path that isn't there the longest beginning that is.
func found(t api.Tree, m map[string]int, s string) (int, api.Errno) {
	l, err := path.Split(s)
	if err != api.OK {
		return 0, err
	}
	for n := len(l); n > 0; n-- {
		i, there := m["/"+strings.Join(l[:n], "/")]
		switch {
		case there && n == len(l):
			return i, api.OK
		case there && t.Nodes[i].Kind == 1:
			return 0, api.ErrFile
		case there:
			return 0, api.ErrNone
		}
	}
	if len(l) > 0 {
		return 0, api.ErrNone
	}
	return 0, api.OK
}

// above is what Parent should tell.
func above(t api.Tree, m map[string]int, s string) (int, string, api.Errno) {
	ahead, last, err := path.Last(s)
	if err != api.OK {
		return 0, "", err
	}
	i, err := found(t, m, ahead)
	if err != api.OK {
		return 0, "", err
	}
	if t.Nodes[i].Kind == 1 {
		return 0, "", api.ErrFile
	}
	return i, last, api.OK
}

// wrong are texts that are no paths.
var wrong = []string{"", "a", "//", "/a/", "//a", "/a//b", "/.", "/..", "/a/..", "/A", "/a b", "/é", "/123456789", "/a\x00", "/\xff", "/f/A", "/a/c/f/", "/" + strings.Repeat("a/", 30), strings.Repeat("/a", 30) + "b"}

// looked: what Find and Parent tell of one path.
func looked(t *testing.T, x api.Tree, m map[string]int, s string) {
	t.Helper()
	i, err := dir.Find(x, s)
	j, last, err2 := dir.Parent(x, s)
	wantI, want := 0, api.ErrArg
	wantJ, wantLast, want2 := 0, "", api.ErrArg
	if m != nil {
		wantI, want = found(x, m, s)
		wantJ, wantLast, want2 = above(x, m, s)
	}
	if i != wantI || err != want {
		t.Errorf("%s: Find(%.80q): %d, %d, not %d, %d", show(x), s, i, err, wantI, want)
	}
	if j != wantJ || last != wantLast || err2 != want2 {
		t.Errorf("%s: Parent(%.80q): %d, %q, %d, not %d, %q, %d", show(x), s, j, last, err2, wantJ, wantLast, want2)
	}
}

// looks: what all calls tell of a tree, also of these paths; they leave it as it was.
func looks(t *testing.T, x api.Tree, also ...string) {
	t.Helper()
	was := show(x)
	is := is(x)
	var m map[string]int
	var come [12][12]bool
	free, walk := -1, []string(nil)
	if is {
		m, come = all(x), from(x)
		walk = walked(m)
		free = slices.IndexFunc(x.Nodes, func(n api.Node) bool { return n.Kind == 0 })
	}
	if got := dir.May(x); got != is {
		t.Errorf("May(%s): %t", was, got)
	}
	if got := dir.Free(x); got != free {
		t.Errorf("Free(%s): %d, not %d", was, got, free)
	}
	if got := dir.Walk(x); !slices.Equal(got, walk) {
		t.Errorf("Walk(%s): %q, not %q", was, got, walk)
	}
	for a := -1; a <= 12; a++ {
		for b := -1; b <= 12; b++ {
			want := a >= 0 && a < 12 && b >= 0 && b < 12 && come[a][b]
			if got := dir.Inside(x, a, b); got != want {
				t.Errorf("Inside(%s, %d, %d): %t", was, a, b, got)
			}
		}
		named(t, x, a)
	}
	for s := range m {
		looked(t, x, m, s)
		looked(t, x, m, s+"/no")
		looked(t, x, m, s+"/a/no")
	}
	for _, s := range also {
		looked(t, x, m, s)
	}
	if !dir.Same(x, x) || show(dir.Copy(x)) != was {
		t.Errorf("%s: Same, Copy: %s", was, show(dir.Copy(x)))
	}
	if got := show(x); got != was {
		t.Errorf("%s was made %s", was, got)
	}
}

// named: what Names tells of one node.
func named(t *testing.T, x api.Tree, i int) {
	t.Helper()
	want := 0
	for _, n := range x.Nodes {
		want += len(slices.DeleteFunc(slices.Clone(n.Entries), func(e api.Entry) bool { return e.Node != i }))
	}
	if got := dir.Names(x, i); got != want {
		t.Errorf("Names(%s, %d): %d, not %d", show(x), i, got, want)
	}
}

// may: whether it may be is told here, not by the model.
func may(t *testing.T, want bool, l ...api.Tree) {
	t.Helper()
	for _, x := range l {
		if got := dir.May(x); got != want {
			t.Errorf("May(%s): %t", show(x), got)
		}
		looks(t, x, "/", "/a", "/a/b", "/f", "/f/a", "A")
	}
}

// with is the tree with this node in that place.
func with(x api.Tree, i int, n api.Node) api.Tree {
	c := deep(x)
	c.Nodes[i] = n
	return c
}

// dice tells numbers that look like none in particular, the same each time.
type dice uint64

func (d *dice) below(n int) int {
	*d = *d*6364136223846793005 + 1442695040888963407
	return int(uint64(*d)>>33) % n
}

// The chapter's example.
func TestExample(t *testing.T) {
	if i, err := dir.Find(dir.First(), "/"); i != 0 || err != api.OK {
		t.Errorf("%d, %d", i, err)
	}
}

// P15.1: First: 12 nodes, the first of them an empty directory; each answer is a new one.
func TestFirst(t *testing.T) {
	for range 2 {
		x := dir.First()
		if got := show(x); got != "0: 2 1 0 []; 12" {
			t.Fatal(got)
		}
		may(t, true, x)
		if dir.Free(x) != 1 || len(dir.Walk(x)) != 0 || !dir.Inside(x, 0, 0) || dir.Inside(x, 0, 1) || dir.Inside(x, 1, 1) {
			t.Error("Free, Walk, Inside")
		}
		for i := range x.Nodes[:cap(x.Nodes)] {
			x.Nodes[i] = file(9, 9)
		}
	}
}

// P15.1, P15.2: what all calls tell of the tree that is written out above, by hand.
func TestKnown(t *testing.T) {
	x := known()
	may(t, true, x)
	if got, want := strings.Join(dir.Walk(x), " "), "/a /a/c /a/c/f /a/g /a- /a-/b /a-/f /f /z /z/00000000"; got != want {
		t.Errorf("Walk: %s, not %s", got, want)
	}
	if got := dir.Free(x); got != 1 {
		t.Errorf("Free: %d", got)
	}
	for i, want := range []int{0, 0, 1, 1, 1, 1, 0, 3, 0, 1, 1, 1} {
		if got := dir.Names(x, i); got != want {
			t.Errorf("Names(%d): %d", i, got)
		}
	}
	inside := map[int][]int{0: {0, 2, 3, 4, 5, 7, 9, 10, 11}, 2: {2, 3, 7}, 3: {3}, 4: {4, 5, 7, 9}, 5: {5, 7}, 10: {10, 11}}
	for a := range 12 {
		for b := range 12 {
			if got := dir.Inside(x, a, b); got != slices.Contains(inside[a], b) {
				t.Errorf("Inside(%d, %d): %t", a, b, got)
			}
		}
	}
	for _, c := range []struct {
		path   string
		node   int
		err    api.Errno
		parent int
		last   string
		err2   api.Errno
	}{
		{"/", 0, api.OK, 0, "", api.ErrState},
		{"/a", 4, api.OK, 0, "a", api.OK},
		{"/a-", 2, api.OK, 0, "a-", api.OK},
		{"/f", 7, api.OK, 0, "f", api.OK},
		{"/a/c/f", 7, api.OK, 5, "f", api.OK},
		{"/a-/f", 7, api.OK, 2, "f", api.OK},
		{"/a-/b", 3, api.OK, 2, "b", api.OK},
		{"/z/00000000", 11, api.OK, 10, "00000000", api.OK},
		{"/b", 0, api.ErrNone, 0, "b", api.OK},
		{"/a/b", 0, api.ErrNone, 4, "b", api.OK},
		{"/a-/b/c", 0, api.ErrNone, 3, "c", api.OK},
		{"/a/b/c", 0, api.ErrNone, 0, "", api.ErrNone},
		{"/z/0000000", 0, api.ErrNone, 10, "0000000", api.OK},
		{"/f/a", 0, api.ErrFile, 0, "", api.ErrFile},
		{"/f/a/b", 0, api.ErrFile, 0, "", api.ErrFile},
		{"/a/c/f/f", 0, api.ErrFile, 0, "", api.ErrFile},
		{"/a/f/f", 0, api.ErrNone, 0, "", api.ErrNone},
		{"/f/A", 0, api.ErrName, 0, "", api.ErrName},
		{"/no/A", 0, api.ErrName, 0, "", api.ErrName},
		{"/a/", 0, api.ErrName, 0, "", api.ErrName},
		{"a", 0, api.ErrName, 0, "", api.ErrName},
		{"", 0, api.ErrName, 0, "", api.ErrName},
	} {
		if i, err := dir.Find(x, c.path); i != c.node || err != c.err {
			t.Errorf("Find(%q): %d, %d", c.path, i, err)
		}
		if i, last, err := dir.Parent(x, c.path); i != c.parent || last != c.last || err != c.err2 {
			t.Errorf("Parent(%q): %d, %q, %d", c.path, i, last, err)
		}
	}
	looks(t, x, wrong...)
}

// P15.2: the tree that may not be is told ahead of all else, by each call.
func TestTreeMayNotBe(t *testing.T) {
	for _, x := range []api.Tree{{}, {Nodes: []api.Node{}}, tree(), with(known(), 6, file(1)), with(known(), 8, file(1)), {Nodes: known().Nodes[:11]}, {Nodes: append(known().Nodes, api.Node{})}} {
		may(t, false, x)
		for _, s := range slices.Concat(wrong, []string{"/", "/a", "/no", "/f/x", "/no/x"}) {
			if i, err := dir.Find(x, s); i != 0 || err != api.ErrArg {
				t.Errorf("Find(%s, %.80q): %d, %d", show(x), s, i, err)
			}
			if i, last, err := dir.Parent(x, s); i != 0 || last != "" || err != api.ErrArg {
				t.Errorf("Parent(%s, %.80q): %d, %q, %d", show(x), s, i, last, err)
			}
		}
		if dir.Free(x) != -1 || len(dir.Walk(x)) != 0 || dir.Inside(x, 0, 0) || dir.Inside(x, 0, 4) || dir.Inside(x, 4, 4) {
			t.Errorf("%s: Free, Walk, Inside", show(x))
		}
	}
}

// P15.1: 12 nodes, from both sides.
func TestHowMany(t *testing.T) {
	for n := range 30 {
		x := api.Tree{Nodes: make([]api.Node, n)}
		may(t, false, x)
		if n > 0 {
			x.Nodes[0] = folder()
			may(t, n == 12, x)
		}
	}
}

// P15.1: each node is one that may be, in each place.
func TestNodes(t *testing.T) {
	none := []api.Node{{Kind: 3}, {Kind: -1}, {Kind: far}, {Kind: far + 1}, {Kind: far + 2}, {Links: 1}, {Links: -1}, {Size: 1}, {Seqs: []int{0}}, {Entries: row("a=1")}}
	for i := range 12 {
		for _, n := range none {
			may(t, false, with(known(), i, n), with(dir.First(), i, n))
		}
		for _, change := range []func(n *api.Node){
			func(n *api.Node) { n.Kind = 3 }, func(n *api.Node) { n.Kind = -n.Kind - 1 }, func(n *api.Node) { n.Links += 121 }, func(n *api.Node) { n.Links = -1 }, func(n *api.Node) { n.Size += 81 }, func(n *api.Node) { n.Size = -1 }, func(n *api.Node) { n.Seqs = append(n.Seqs, 0) }, func(n *api.Node) { n.Seqs = append(n.Seqs, 77) }, func(n *api.Node) { n.Entries = append(n.Entries, api.Entry{}) },
			func(n *api.Node) { n.Entries = append(n.Entries, api.Entry{Name: "zz", Node: 12}) }, func(n *api.Node) { n.Entries = append(n.Entries, api.Entry{Name: "zz"}) }, func(n *api.Node) { n.Entries = append(n.Entries, api.Entry{Name: "zz", Node: -1}) },
		} {
			x := deep(known())
			change(&x.Nodes[i])
			may(t, false, x)
		}
	}
	// Of a page behind the end of its file.
	x := deep(known())
	x.Nodes[7].Size = 32
	may(t, false, x)
	x.Nodes[7].Size = 33
	may(t, true, x)
}

// P15.1: node 0 is a directory.
func TestRoot(t *testing.T) {
	may(t, true, tree(folder()))
	may(t, false, tree(), tree(file(0)), tree(file(1)), tree(file(0, 1, 2)), tree(api.Node{}, folder("a=2"), file(1)), tree(api.Node{}, folder()), tree(file(0), folder()))
	// Its Links are 1, though nothing names it, and nothing may.
	for links := range 5 {
		x := tree(folder("a=1"), file(1))
		x.Nodes[0].Links = links
		may(t, links == 1, x)
	}
	may(t, false, tree(folder("a=0")), tree(folder("a=1"), folder("a=0")), tree(folder("a=1", "b=0"), file(1)))
}

// P15.1: each entry's node is not KNone, wherever the entry stands, whatever the node.
func TestEntriesOfNone(t *testing.T) {
	for i := 1; i < 12; i++ {
		at := 1 + i%11
		for n := 1; n <= 10; n++ {
			for e := range n {
				var l []string
				for k := range n {
					l = append(l, fmt.Sprint(k, "=", at))
				}
				x := tree(folder(l...))
				x.Nodes[at] = file(n)
				may(t, true, x)
				x.Nodes[0].Entries[e].Node = i
				may(t, false, x)
				x.Nodes[at].Links--
				may(t, false, x)
				x.Nodes[i] = file(1)
				may(t, true, x)
				x.Nodes[i] = api.Node{}
				may(t, false, x)
			}
		}
	}
	may(t, false, tree(folder("a=1"), folder("a=2")), tree(folder("a=1")), tree(folder("a=1", "b=2"), folder("a=3"), folder()))
}

// P15.1: each directory but node 0 has just one name, in all.
func TestNamesOfDirs(t *testing.T) {
	may(t, true, tree(folder("a=1"), folder()), tree(folder("a=1", "b=2"), folder(), folder()), tree(folder("a=1"), folder("a=2"), folder()), tree(folder("a=11"), api.Node{}, api.Node{}, api.Node{}, api.Node{}, api.Node{}, api.Node{}, api.Node{}, api.Node{}, api.Node{}, api.Node{}, folder()))
	may(t, false,
		tree(folder(), folder()),                                          // no name
		tree(folder("a=1", "b=1"), folder()),                              // two in one directory
		tree(folder("a=1", "b=2"), folder("a=2"), folder()),               // two in different ones, one in the other
		tree(folder("a=1", "b=2"), folder("a=3"), folder("a=3")),          // of what is none
		tree(folder("a=1", "b=2"), folder("a=3"), folder("a=3"), file(1)), // of a file with a name too many
		tree(folder("a=1", "b=2"), folder("a=3"), folder("a=3"), folder()),
		tree(folder("a=1", "b=1", "c=1"), folder()),
		tree(folder("a=1"), folder("a=1")),                // one in itself
		tree(folder("a=1"), folder("a=2"), folder("a=1")), // one in what is in it
	)
	may(t, true, tree(folder("a=1", "b=2"), folder("a=3"), folder("a=3"), file(2)))
	// Each node, in each of the places, by each place of the list that another name may have.
	for i := 1; i < 12; i++ {
		x := known()
		if x.Nodes[i].Kind != 2 {
			continue
		}
		for in := range 12 {
			if x.Nodes[in].Kind == 2 {
				for _, s := range []string{"-", "z-"} {
					c := deep(x)
					c.Nodes[in].Entries = append(c.Nodes[in].Entries, api.Entry{Name: s, Node: i})
					slices.SortFunc(c.Nodes[in].Entries, func(a, b api.Entry) int { return strings.Compare(a.Name, b.Name) })
					may(t, false, c)
				}
			}
		}
	}
}

// P15.1: Links of each file is how many name it, from both sides, also of none and of the most that there may be.
func TestLinks(t *testing.T) {
	for _, node := range []int{1, 5, 11} {
		for names := range 11 {
			var l []string
			for k := range names {
				l = append(l, fmt.Sprint(k, "=", node))
			}
			for links := range 13 {
				x := tree(folder(l...))
				x.Nodes[node] = file(links, 3, 4)
				may(t, links == names, x)
			}
		}
	}
	// All other nodes directories, and all other entries the file's: 0 to 10 have 110 entries, and 10 of these are of directories.
	x := tree(folder("0=1", "1=2", "2=3", "3=4", "4=5", "5=6", "6=7", "7=8", "8=9", "9=10"))
	for i := 1; i <= 10; i++ {
		x.Nodes[i] = folder("0=11", "1=11", "2=11", "3=11", "4=11", "5=11", "6=11", "7=11", "8=11", "9=11")
	}
	for links := 97; links <= 120; links++ {
		x.Nodes[11] = file(links)
		may(t, links == 100, x)
	}
	x.Nodes[11] = file(100)
	if got := dir.Walk(x); len(got) != 110 || got[0] != "/0" || got[1] != "/0/0" || got[11] != "/1" || got[109] != "/9/9" {
		t.Errorf("%d: %q", len(got), got)
	}
}

// P15.1: each directory is come to from node 0: not those that have a name only among themselves.
func TestComeTo(t *testing.T) {
	may(t, false,
		tree(folder(), folder("a=1")),
		tree(folder(), folder("a=2"), folder("a=1")),
		tree(folder("a=1"), folder(), folder("a=2")),
		tree(folder("a=1"), folder(), folder("a=3"), folder("a=2")),
		tree(folder("a=1"), folder(), folder("a=3", "b=4"), folder("a=2"), folder()),
		tree(folder("a=1"), folder(), folder("a=3", "b=4"), folder("a=2"), file(1)),
	)
	// A ring of directories, of each length, apart from the rest; and the same, opened at one place and hung on node 0.
	for many := 1; many <= 11; many++ {
		x := tree(folder())
		for i := 1; i <= many; i++ {
			x.Nodes[i] = folder(fmt.Sprint("a=", 1+i%many))
		}
		may(t, false, x)
		x.Nodes[many] = folder()
		may(t, false, x)
		x.Nodes[0] = folder("a=1")
		may(t, true, x)
	}
	// A file in a directory that is not come to.
	may(t, false, tree(folder("f=2"), folder("a=1", "f=2"), file(2)))
	may(t, true, tree(folder("a=1", "f=2"), folder("f=2"), file(2)))
}

// P15.1, P15.2: as deep as may be: eleven directories in one another in the root directory, from the first on and from the last.
func TestDeep(t *testing.T) {
	for many := 1; many <= 12; many++ {
		x := chain("a", many)
		may(t, true, x)
		s := strings.Repeat("/a", many-1)
		if i, err := dir.Find(x, "/"+strings.TrimPrefix(s, "/")); i != many-1 || err != api.OK {
			t.Errorf("%d: %d, %d", many, i, err)
		}
		if i, last, err := dir.Parent(x, s+"/b"); i != many-1 || last != "b" || err != api.OK {
			t.Errorf("%d: %d, %q, %d", many, i, last, err)
		}
		if got := dir.Walk(x); len(got) != many-1 || many > 1 && got[many-2] != s {
			t.Errorf("%d: %q", many, got)
		}
		for a := range many {
			for b := range many {
				if got := dir.Inside(x, a, b); got != (a <= b) {
					t.Errorf("%d: Inside(%d, %d): %t", many, a, b, got)
				}
			}
		}
		// The last of them a file, and one of two names.
		if many > 1 {
			x.Nodes[many-1] = file(1, 8)
			may(t, true, x)
			x.Nodes[many-1] = file(2, 8)
			may(t, false, x)
			x.Nodes[0].Entries = append(x.Nodes[0].Entries, api.Entry{Name: "b", Node: many - 1})
			may(t, true, x)
		}
		// The last of them leads back.
		for back := range many {
			x := chain("a", many)
			x.Nodes[many-1] = folder(fmt.Sprint("a=", back))
			may(t, false, x)
		}
	}
	// Backwards: each is named by the one behind it.
	x := tree(folder("a=11"), folder(), folder("a=1"), folder("a=2"), folder("a=3"), folder("a=4"), folder("a=5"), folder("a=6"), folder("a=7"), folder("a=8"), folder("a=9"), folder("a=10"))
	may(t, true, x)
	if i, err := dir.Find(x, strings.Repeat("/a", 11)); i != 1 || err != api.OK {
		t.Errorf("%d, %d", i, err)
	}
}

// P15.1: no Seq but 0 stands twice: in a file, in two, and in one without a name; of all pairs of pages.
func TestSeqs(t *testing.T) {
	files := func() api.Tree {
		x := tree(folder("0=1", "1=2", "2=3", "3=4", "4=5", "5=6", "6=7", "7=8", "8=9", "9=10"))
		for i := 1; i <= 11; i++ {
			// Falling, so that they aren't in order.
			x.Nodes[i] = file(1, 1000-5*i, 999-5*i, 998-5*i, 997-5*i, 996-5*i)
		}
		x.Nodes[11].Links = 0
		return x
	}
	if x := files(); !dir.May(x) {
		t.Fatal(show(x))
	}
	for p := range 55 {
		for q := range 55 {
			for _, seq := range []int{0, 1, 7, 1 << 40, far, 996 - 5*3} {
				x := files()
				x.Nodes[1+p/5].Seqs[p%5] = seq
				x.Nodes[1+q/5].Seqs[q%5] = seq
				// The last one is node 3's last page's own.
				want := seq == 0 || p == q && seq < 900 || p == q && seq > 1000 || p == 14 && q == 14
				if got := dir.May(x); got != want || got != is(x) {
					t.Errorf("pages %d, %d of %d: %t", p, q, seq, got)
				}
			}
		}
	}
	may(t, true, tree(folder("a=1", "b=2"), file(1, 0, 0, 0, 0, 0), file(1, 0, 0, 0)), tree(folder("a=1"), file(1, 1), file(0, 2)), tree(folder(), file(0, 5, 4, 3, 2, 1)))
	may(t, true, tree(folder("a=1"), file(1, 7), file(0, 7+far)), tree(folder("a=1", "b=1"), file(2, 7)))
	may(t, false, tree(folder("a=1"), file(1, 7), file(0, 7)), tree(folder(), file(0, 7), file(0, 0, 0, 7)), tree(folder("a=1"), file(1, 0, 9, 0, 9)), tree(folder(), file(0, 1<<40, 1<<40)))
}

// P15.1, P15.2, P15.3: all trees of nodes 0 to 3, each of them none, a file, or a directory with any set of the others in it.
func TestSmall(t *testing.T) {
	sets := func(most int) (l []api.Node) {
		for set := range 8 {
			n := folder()
			for i := range 3 {
				if set>>i&1 == 1 && i < most {
					n.Entries = append(n.Entries, api.Entry{Name: "abc"[i : i+1], Node: 1 + i})
				}
			}
			l = append(l, n)
		}
		return l
	}
	nodes := slices.Concat(sets(3), []api.Node{{}, file(0), file(1), file(2), file(3)})
	trees, some := 0, 0
	for _, root := range sets(3) {
		for _, a := range nodes {
			for _, b := range nodes {
				for _, c := range nodes {
					x := tree(root, a, b, c)
					trees++
					if dir.May(x) {
						some++
						looks(t, x, "/a", "/b/a", "/c/b/a", "/A")
					} else if is(x) {
						t.Errorf("May(%s): no", show(x))
					} else if trees%31 == 0 {
						looks(t, x, "/a", "/b/a", "/c/b/a", "/A")
					}
				}
			}
		}
	}
	if trees != 8*13*13*13 || some < 100 {
		t.Errorf("%d of %d may be", some, trees)
	}
}

// P15.1: all trees of nodes 0 to 2, each entry there up to two times, in each directory.
func TestSmallTwice(t *testing.T) {
	var dirs []api.Node
	for set := range 16 {
		n := folder()
		for i := range 4 {
			if set>>i&1 == 1 {
				n.Entries = append(n.Entries, api.Entry{Name: "abcd"[i : i+1], Node: 1 + i%2})
			}
		}
		dirs = append(dirs, n)
	}
	nodes := slices.Clone(dirs)
	nodes = append(nodes, api.Node{})
	for links := range 8 {
		nodes = append(nodes, file(links))
	}
	some := 0
	for _, root := range dirs {
		for _, a := range nodes {
			for _, b := range nodes {
				x := tree(root, a, b)
				if dir.May(x) != is(x) {
					t.Errorf("May(%s): %t", show(x), !is(x))
				}
				if is(x) {
					some++
					looks(t, x)
				}
			}
		}
	}
	if some < 50 {
		t.Errorf("%d may be", some)
	}
}

// several are trees of which no two are alike; some may not be.
func several() []api.Tree {
	l := []api.Tree{{}, dir.First(), known(), tree(), tree(folder("a=1"), folder()), tree(folder("b=1"), folder()), tree(folder("a=2"), api.Node{}, folder()), tree(folder("a=1"), file(1)), tree(folder("a=1"), file(1, 1)), tree(folder("a=1"), file(1, 2)), chain("a", 12), chain("b", 12), chain("a", 11), {Nodes: make([]api.Node, 1)}, {Nodes: []api.Node{folder()}}, {Nodes: []api.Node{{Kind: 9}, {Kind: far}}}, {Nodes: []api.Node{{Kind: far}, {Kind: 9}}}, {Nodes: known().Nodes[:11]}, {Nodes: append(known().Nodes, api.Node{})}, {Nodes: append(known().Nodes, known().Nodes...)}}
	for i := range 12 {
		l = append(l, with(known(), i, api.Node{Links: 9}), with(known(), i, api.Node{Kind: 7}), with(known(), i, file(1, 88)))
		for _, change := range []func(n *api.Node){func(n *api.Node) { n.Kind += far }, func(n *api.Node) { n.Links += far }, func(n *api.Node) { n.Size-- }, func(n *api.Node) { n.Seqs = append(n.Seqs, 0) }, func(n *api.Node) { n.Entries = append(n.Entries, api.Entry{}) }} {
			x := deep(known())
			change(&x.Nodes[i])
			l = append(l, x)
		}
	}
	return l
}

// P15.1: Same says yes of just those that are alike in all, whether they may be or not; all pairs, from either side.
func TestSame(t *testing.T) {
	a, b := several(), several()
	for i, x := range a {
		for j, y := range b {
			if got := dir.Same(x, y); got != (i == j) {
				t.Errorf("Same(%s, %s): %t", show(x), show(y), got)
			}
		}
	}
	for i, x := range several() {
		if show(a[i]) != show(x) || show(b[i]) != show(x) {
			t.Errorf("%s was made %s, %s", show(x), show(a[i]), show(b[i]))
		}
	}
}

// P15.1, R2: nil and empty lists are one.
func TestSameNil(t *testing.T) {
	if !dir.Same(api.Tree{}, api.Tree{Nodes: []api.Node{}}) || !dir.Same(api.Tree{Nodes: []api.Node{}}, api.Tree{}) {
		t.Error("of no nodes")
	}
	for _, x := range several() {
		a, b := deep(x), deep(x)
		for i := range a.Nodes {
			if len(a.Nodes[i].Seqs) == 0 {
				a.Nodes[i].Seqs = nil
			}
			if len(a.Nodes[i].Entries) == 0 {
				a.Nodes[i].Entries = nil
			}
		}
		if !dir.Same(a, b) || !dir.Same(b, a) || dir.May(a) != dir.May(b) {
			t.Errorf("%s: not the same", show(x))
		}
	}
}

// P15.1: what Copy tells is alike in all, also of what may not be.
func TestCopy(t *testing.T) {
	for _, x := range several() {
		was := show(x)
		got := dir.Copy(x)
		if show(got) != was || !dir.Same(got, x) || dir.May(got) != dir.May(x) {
			t.Errorf("Copy(%s): %s", was, show(got))
		}
	}
}

// spoil writes over a tree, and over all that its memory has room for.
func spoil(x api.Tree) {
	for _, n := range x.Nodes {
		for i := range n.Seqs[:cap(n.Seqs)] {
			n.Seqs[:cap(n.Seqs)][i] = -9
		}
		for i := range n.Entries[:cap(n.Entries)] {
			n.Entries[:cap(n.Entries)][i] = api.Entry{Name: "spoilt", Node: -9}
		}
	}
	for i := range x.Nodes[:cap(x.Nodes)] {
		x.Nodes[:cap(x.Nodes)][i] = api.Node{Kind: -9}
	}
}

// R2: what Copy tells is new memory: neither the caller's tree nor another copy changes with it, nor it with them.
func TestCopyNew(t *testing.T) {
	for i, x := range several() {
		was := show(x)
		a, b := dir.Copy(x), dir.Copy(x)
		spoil(a)
		if show(x) != was || show(b) != was {
			t.Errorf("%d: %s spoilt: %s, %s", i, was, show(x), show(b))
		}
		spoil(x)
		if show(b) != was {
			t.Errorf("%d: %s spoilt: %s", i, was, show(b))
		}
	}
	// A copy's lists are no neighbours: what is put behind one is not seen in the next.
	a := dir.Copy(known())
	for _, n := range a.Nodes {
		_ = append(n.Seqs, -9)
		_ = append(n.Entries, api.Entry{Name: "spoilt"})
	}
	if show(a) != show(known()) {
		t.Error(show(a))
	}
}

// R2: each answer of Walk is a new one.
func TestWalkNew(t *testing.T) {
	x := known()
	first := dir.Walk(x)
	for i := range first[:cap(first)] {
		first[:cap(first)][i] = "/spoilt"
	}
	looks(t, x)
}

// R2: what stands behind a list's length is neither looked at nor written.
func TestBehind(t *testing.T) {
	for _, junk := range []api.Node{{}, {Kind: 9}, folder("spoilt=1"), file(3, 7, 9)} {
		x := deep(known())
		for i := range x.Nodes {
			n := &x.Nodes[i]
			n.Seqs = append(n.Seqs, 7, 9, -1)[:len(n.Seqs)]
			n.Entries = append(n.Entries, api.Entry{Name: "zz", Node: 7}, api.Entry{Name: "zzz", Node: 1}, api.Entry{Name: "A"})[:len(n.Entries)]
		}
		x.Nodes = append(x.Nodes, junk, junk, junk)
		was := show(x)
		short := api.Tree{Nodes: x.Nodes[:12]}
		if !dir.May(short) || !dir.Same(short, known()) {
			t.Error("May, Same")
		}
		looks(t, short, "/zz", "/zzz", "/a/zz", "/a/c/zz", "/f/zz")
		looks(t, api.Tree{Nodes: x.Nodes[:11]}, "/z")
		for _, n := range x.Nodes[:12] {
			seqs, entries := n.Seqs[:len(n.Seqs)+3], n.Entries[:len(n.Entries)+3]
			if s := fmt.Sprint(seqs[len(n.Seqs):], entries[len(n.Entries):]); s != "[7 9 -1] [{zz 7} {zzz 1} {A 0}]" {
				t.Error(s)
			}
		}
		if show(x) != was {
			t.Errorf("%s was made %s", was, show(x))
		}
	}
}

// P15.1: Names counts entries of all nodes, of trees that may not be too, and of numbers that are no node's.
func TestNames(t *testing.T) {
	odd := api.Tree{Nodes: []api.Node{
		{Kind: 1, Entries: row("a=3", "a=3", "A=-5", "=3")}, {Kind: 0, Entries: row("b=3", "b=0")}, {Kind: 9, Entries: row("c=0", "c=1000000")}, folder("a=3", "b=1"),
	}}
	odd.Nodes[3].Entries = append(odd.Nodes[3].Entries, api.Entry{Node: math.MaxInt}, api.Entry{Node: math.MinInt}, api.Entry{Node: 3 + far})
	for i, want := range map[int]int{3: 5, -5: 1, 0: 2, 1: 1, 1000000: 1, 2: 0, -1: 0, math.MaxInt: 1, math.MinInt: 1, 3 + far: 1, far: 0} {
		if got := dir.Names(odd, i); got != want {
			t.Errorf("%d: %d, not %d", i, got, want)
		}
	}
	may(t, false, odd)
	for _, n := range []int{0, 1, 11, 13, 40} {
		x := api.Tree{Nodes: slices.Repeat([]api.Node{folder("a=1", "b=1", "c=2")}, n)}
		if dir.Names(x, 1) != 2*n || dir.Names(x, 2) != n || dir.Names(x, 0) != 0 {
			t.Errorf("of %d nodes: %d, %d", n, dir.Names(x, 1), dir.Names(x, 2))
		}
	}
	for _, x := range several() {
		for _, i := range []int{math.MinInt, -far, -2, -1, 0, 1, 4, 7, 11, 12, far, far + 7, math.MaxInt} {
			named(t, x, i)
		}
	}
}

// P15.2: Inside tells no of numbers that are no node's, from either side; a file, or none, is not inside itself.
func TestInsideNumbers(t *testing.T) {
	x := known()
	for _, n := range []int{math.MinInt, -far, -far + 4, -12, -1, 12, 13, 256, 260, far, far + 4, math.MaxInt} {
		for i := range 12 {
			if dir.Inside(x, n, i) || dir.Inside(x, i, n) {
				t.Errorf("%d, %d", n, i)
			}
		}
		if dir.Inside(x, n, n) {
			t.Errorf("%d in itself", n)
		}
	}
	for _, i := range []int{1, 6, 7, 8, 9, 11} {
		if dir.Inside(x, i, i) {
			t.Errorf("%d in itself", i)
		}
	}
}

// P15.2: Free tells the lowest node that is none, and -1 where all are some.
func TestFree(t *testing.T) {
	for set := range 1 << 11 {
		x := dir.First()
		want := -1
		for i := 11; i > 0; i-- {
			if set>>(i-1)&1 == 1 {
				x.Nodes[i] = file(0, i)
			} else {
				want = i
			}
		}
		if got := dir.Free(x); got != want {
			t.Errorf("%b: %d, not %d", set, got, want)
		}
	}
	x := chain("a", 12)
	if got := dir.Free(x); got != -1 {
		t.Errorf("of a full one: %d", got)
	}
}

// P15.2: the first error is told, going from node 0 on: what is not there behind what is no directory, and the other way round.
func TestFindFirst(t *testing.T) {
	x := tree(folder("d=1", "f=2"), folder("f=2"), file(2))
	for s, want := range map[string]api.Errno{"/f/f": api.ErrFile, "/f/no": api.ErrFile, "/f/no/f": api.ErrFile, "/f/d/f": api.ErrFile, "/no/f": api.ErrNone, "/no/f/f": api.ErrNone, "/d/no/f": api.ErrNone, "/d/f/f": api.ErrFile, "/d/f": api.OK, "/d/d": api.ErrNone, "/f/f/A": api.ErrName, "/no/..": api.ErrName, "/f/": api.ErrName, "/d/": api.ErrName, "/d//f": api.ErrName, "/d/./f": api.ErrName} {
		if _, err := dir.Find(x, s); err != want {
			t.Errorf("%q: %d, not %d", s, err, want)
		}
	}
	looks(t, x, wrong...)
}

// P15.2: of a path that may be, Parent asks only of the path ahead: the last name need not be there.
func TestParent(t *testing.T) {
	x := known()
	m := all(x)
	for i, ahead := range map[int]string{0: "", 2: "/a-", 3: "/a-/b", 4: "/a", 5: "/a/c", 10: "/z"} {
		for _, s := range []string{"a", "b", "c", "f", "g", "new", "00000000", "...", "-"} {
			j, last, err := dir.Parent(x, ahead+"/"+s)
			if j != i || last != s || err != api.OK {
				t.Errorf("%q: %d, %q, %d", ahead+"/"+s, j, last, err)
			}
		}
		for _, s := range []string{"", "A", ".", "..", "123456789"} {
			j, last, err := dir.Parent(x, ahead+"/"+s)
			want := api.ErrName
			if ahead == "" && s == "" {
				want = api.ErrState
			}
			if j != 0 || last != "" || err != want {
				t.Errorf("%q: %d, %q, %d", ahead+"/"+s, j, last, err)
			}
		}
		looked(t, x, m, ahead+"/f/x")
		looked(t, x, m, ahead+"/no/x")
	}
}

// P15.2: names rise byte by byte in each directory, and what is in a directory stands at once behind it, ahead of names that are longer by a byte below '/'.
func TestWalkOrder(t *testing.T) {
	x := tree(folder("-=1", "--=6", "-.=2", ".-=6", "0=6", "_=3", "a=4", "a-=6", "a.=5", "a0=6"), folder("z=6"), folder(), folder("-=6"), folder("-=6", "z=6"), folder("a=7"), file(10), folder("a=6", "b=8"), file(1))
	may(t, true, x)
	if got, want := strings.Join(dir.Walk(x), " "), "/- /-/z /-- /-. /.- /0 /_ /_/- /a /a/- /a/z /a- /a. /a./a /a./a/a /a./a/b /a0"; got != want {
		t.Errorf("%s\nnot %s", got, want)
	}
}

// P15.2: paths of 60 bytes at most: what is longer is left out, with all that is in it, but not what stands behind it.
func TestWalkLong(t *testing.T) {
	x := chain("12345678", 7)
	ahead := strings.Repeat("/12345678", 6)
	x.Nodes[6] = folder("aaaa=7", "aaaaa=8", "aaaaaa=9", "aaab=10", "b=11")
	x.Nodes[7] = folder("b=11")
	x.Nodes[8] = folder("b=11")
	x.Nodes[9] = folder("b=11")
	x.Nodes[10] = folder()
	x.Nodes[11] = file(4)
	may(t, true, x)
	l := dir.Walk(x)
	want := []string{"/12345678", "/12345678/12345678", ahead[:27], ahead[:36], ahead[:45], ahead, ahead + "/aaaa", ahead + "/aaaaa", ahead + "/aaab", ahead + "/b"}
	if !slices.Equal(l, want) {
		t.Errorf("%q\nnot %q", l, want)
	}
	if i, err := dir.Find(x, ahead+"/aaaaa"); i != 8 || err != api.OK {
		t.Errorf("%d, %d", i, err)
	}
	// They are there, but paths of more bytes than may be.
	for _, s := range []string{"/aaaaaa", "/aaaaa/b", "/aaaaaa/b", "/aaaa/b"} {
		i, err := dir.Find(x, ahead+s)
		j, last, err2 := dir.Parent(x, ahead+s)
		if i != 0 || err != api.ErrName || j != 0 || last != "" || err2 != api.ErrName {
			t.Errorf("%s: %d, %d, %d, %q, %d", s, i, err, j, last, err2)
		}
	}
	// One byte less in front: what had 61 bytes has 60, and what is in /aaaa has.
	x.Nodes[0] = folder("1234567=1")
	may(t, true, x)
	l = dir.Walk(x)
	want = slices.Insert(want, 7, ahead+"/aaaa/b")
	want = slices.Insert(want, 9, ahead+"/aaaaaa")
	for i := range want {
		want[i] = strings.Replace(want[i], "8", "", 1)
	}
	if !slices.Equal(l, want) || len(l[7]) != 60 || len(l[9]) != 60 {
		t.Errorf("%q\nnot %q", l, want)
	}
	// As deep as may be, with names as long as may be: only six of them have room.
	if l := dir.Walk(chain("abcdefgh", 12)); len(l) != 6 || l[5] != strings.Repeat("/abcdefgh", 6) {
		t.Errorf("%q", l)
	}
}

// P15.3: each path that Walk tells is found: once each, just those of all nodes' names where none is too long.
func TestWalkFound(t *testing.T) {
	d := dice(3)
	for range 500 {
		x := grown(&d, 3)
		l := dir.Walk(x)
		names := 0
		for i := range 12 {
			names += dir.Names(x, i)
		}
		if len(l) != names || len(slices.Compact(slices.Sorted(slices.Values(l)))) != names {
			t.Errorf("%s: %q", show(x), l)
		}
		for _, s := range l {
			i, err := dir.Find(x, s)
			j, last, err2 := dir.Parent(x, s)
			if err != api.OK || i < 1 || err2 != api.OK || !dir.Inside(x, 0, i) || !dir.Inside(x, j, i) || !strings.HasSuffix(s, "/"+last) || !slices.Contains(x.Nodes[j].Entries, api.Entry{Name: last, Node: i}) {
				t.Errorf("%s: %q: %d, %d, %d, %q, %d", show(x), s, i, err, j, last, err2)
			}
		}
	}
}

// grown is a tree that may be, with names of so many bytes at most: nodes are hung up one by one, in no order of their numbers.
func grown(d *dice, most int) api.Tree {
	x := dir.First()
	dirs, seq := []int{0}, 1
	name := func() string {
		s := make([]byte, 1+d.below(most))
		for i := range s {
			s[i] = "-0_abz"[d.below(6)]
		}
		return string(s)
	}
	hang := func(i int) bool {
		n := &x.Nodes[dirs[d.below(len(dirs))]]
		s := name()
		if len(n.Entries) == 10 || slices.ContainsFunc(n.Entries, func(e api.Entry) bool { return e.Name == s }) {
			return false
		}
		n.Entries = append(n.Entries, api.Entry{Name: s, Node: i})
		slices.SortFunc(n.Entries, func(a, b api.Entry) int { return strings.Compare(a.Name, b.Name) })
		return true
	}
	for range d.below(14) {
		i := 1 + d.below(11)
		if x.Nodes[i].Kind != 0 {
			continue
		}
		if d.below(2) == 0 && hang(i) {
			x.Nodes[i] = folder()
			dirs = append(dirs, i)
			continue
		}
		n := file(0)
		for range d.below(4) {
			if hang(i) {
				n.Links++
			}
		}
		n.Size = d.below(81)
		for p := 0; p*16 < n.Size; p++ {
			if d.below(3) > 0 {
				n.Seqs[p] = seq
				seq += 1 + d.below(3)
			}
		}
		x.Nodes[i] = n
	}
	return x
}

// changed is a tree with some one thing of it other than it was, or with none.
func changed(d *dice, x api.Tree) api.Tree {
	x = deep(x)
	n := &x.Nodes[d.below(12)]
	switch d.below(10) {
	case 0:
		n.Kind = d.below(4)
	case 1:
		n.Links = d.below(4)
	case 2:
		n.Size = d.below(90) - 1
	case 3:
		if len(n.Seqs) > 0 {
			n.Seqs[d.below(len(n.Seqs))] = d.below(20)
		}
	case 4:
		if len(n.Entries) > 0 {
			n.Entries[d.below(len(n.Entries))].Node = d.below(14) - 1
		}
	case 5:
		if len(n.Entries) > 0 {
			at := d.below(len(n.Entries))
			n.Entries = slices.Delete(n.Entries, at, at+1)
		}
	case 6:
		n.Entries = append(n.Entries, api.Entry{Name: "zzzz", Node: d.below(14) - 1})
	case 7:
		*n = []api.Node{{}, file(0), file(1), folder()}[d.below(4)]
	case 8:
		m := &x.Nodes[d.below(12)]
		*n, *m = *m, *n
	}
	return x
}

// P15.1 to P15.3, R3: many trees, and such as differ from them in some few things: each call tells what it should.
func TestAnything(t *testing.T) {
	d := dice(4)
	told := map[bool]int{}
	for range 3000 {
		x := grown(&d, 1+d.below(8))
		if !dir.May(x) {
			t.Fatal(show(x))
		}
		for range d.below(4) {
			x = changed(&d, x)
		}
		told[dir.May(x)]++
		looks(t, x, wrong[d.below(len(wrong))], "/a", "/a/b", "/b/0/a")
	}
	if told[true] < 500 || told[false] < 500 {
		t.Errorf("%v may be", told)
	}
}

// R3: directories that name each other as often as they can: as many ways as would never be gone to the end.
func TestManyWays(t *testing.T) {
	x := dir.First()
	for i := range 12 {
		x.Nodes[i] = folder("0=1", "1=2", "2=3", "3=4", "4=5", "5=6", "6=7", "7=8", "8=9", "9=10")
	}
	may(t, false, x)
	for i := range 12 {
		// In rings of all lengths at once, each of them with all others behind it.
		var l []string
		for k := range 10 {
			l = append(l, fmt.Sprint(k, "=", 1+(i+k)%11))
		}
		x.Nodes[i] = folder(l...)
	}
	may(t, false, x)
}

// R3: trees, paths and lists that are long.
func TestLong(t *testing.T) {
	x := known()
	long := strings.Repeat("/a", 1<<23)
	for _, s := range []string{long, long[1:], strings.Repeat("/", 1<<24), "/" + strings.Repeat("a", 1<<24)} {
		i, err := dir.Find(x, s)
		j, last, err2 := dir.Parent(x, s)
		if i != 0 || err != api.ErrName || j != 0 || last != "" || err2 != api.ErrName {
			t.Errorf("%.10q: %d, %d, %d, %q, %d", s, i, err, j, last, err2)
		}
	}
	many := api.Tree{Nodes: slices.Repeat([]api.Node{folder("a=1")}, 1<<18)}
	if dir.May(many) || dir.Names(many, 1) != 1<<18 || !dir.Same(many, dir.Copy(many)) || dir.Same(many, x) || dir.Free(many) != -1 || dir.Walk(many) != nil || dir.Inside(many, 0, 1) {
		t.Error("of many nodes")
	}
	wide := with(dir.First(), 0, api.Node{Kind: 2, Links: 1, Entries: slices.Repeat(row("a=1", "b=2"), 1<<18)})
	if dir.May(wide) || dir.Names(wide, 2) != 1<<18 || !dir.Same(wide, dir.Copy(wide)) || dir.Free(wide) != -1 || dir.Walk(wide) != nil || dir.Inside(wide, 0, 1) {
		t.Error("of many entries")
	}
	pages := with(dir.First(), 1, api.Node{Kind: 1, Size: 80, Seqs: make([]int, 1<<18)})
	if dir.May(pages) || !dir.Same(pages, dir.Copy(pages)) || dir.Free(pages) != -1 {
		t.Error("of many pages")
	}
	named := with(dir.First(), 0, api.Node{Kind: 2, Links: 1, Entries: []api.Entry{{Name: long, Node: 1}}})
	if dir.May(named) || dir.Names(named, 1) != 1 || !dir.Same(named, dir.Copy(named)) || dir.Walk(named) != nil {
		t.Error("of a long name")
	}
}
