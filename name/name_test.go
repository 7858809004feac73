package name_test

import (
	"fmt"
	"maps"
	"math"
	"regexp"
	"slices"
	"strings"
	"testing"

	"potsherd/api"
	"potsherd/name"
)

// rule is what a name looks like, told in another way than path does; `.` and `..` look so, too.
var rule = regexp.MustCompile(`\A[a-z0-9._-]{1,8}\z`)

// wrong are names that may not be.
var wrong = []string{"", ".", "..", "/", "/a", "a/b", "A", "aB", "a b", "é", "\x00", "a\x00", "\xff", "abcdefghi", "........."}

// right are names that may be, rising: `-` is below `.`, that below the digits, those below `_`, that below the letters.
var right = []string{"-", "-.", ".-", "...", ".a", "0", "00", "01", "1", "9", "_", "a", "a-", "a.", "a0", "a_", "aa", "aaaaaaaa", "ab", "abcdefgh", "b", "z", "zzzzzzzz"}

func isName(s string) bool {
	return rule.MatchString(s) && s != "." && s != ".."
}

func isEntry(e api.Entry) bool {
	return isName(e.Name) && 0 < e.Node && e.Node < 12
}

// isList says which lists may be, by all pairs of their entries.
func isList(l []api.Entry) bool {
	for i, e := range l {
		if !isEntry(e) {
			return false
		}
		for _, behind := range l[i+1:] {
			if strings.Compare(e.Name, behind.Name) >= 0 {
				return false
			}
		}
	}
	return len(l) <= 10
}

func has(l []api.Entry, s string) bool {
	return slices.ContainsFunc(l, func(e api.Entry) bool { return e.Name == s })
}

// more and less are what With and Without should tell, by a map that is made a list again.
func more(l []api.Entry, s string, node int) ([]api.Entry, api.Errno) {
	switch {
	case !isList(l) || !isEntry(api.Entry{Name: s, Node: node}):
		return nil, api.ErrArg
	case has(l, s):
		return nil, api.ErrThere
	case len(l) == 10:
		return nil, api.ErrNodes
	}
	m := mapped(l)
	m[s] = node
	return listed(m), api.OK
}

func less(l []api.Entry, s string) ([]api.Entry, api.Errno) {
	switch {
	case !isList(l):
		return nil, api.ErrArg
	case !has(l, s):
		return nil, api.ErrNone
	}
	m := mapped(l)
	delete(m, s)
	return listed(m), api.OK
}

func mapped(l []api.Entry) map[string]int {
	m := map[string]int{}
	for _, e := range l {
		m[e.Name] = e.Node
	}
	return m
}

func listed(m map[string]int) []api.Entry {
	var l []api.Entry
	for _, s := range slices.Sorted(maps.Keys(m)) {
		l = append(l, api.Entry{Name: s, Node: m[s]})
	}
	return l
}

// rows are entries of these names, the first of node 1, the next of node 2, and, behind node 11, of node 1 again.
func rows(names ...string) []api.Entry {
	var l []api.Entry
	for i, s := range names {
		l = append(l, api.Entry{Name: s, Node: 1 + i%11})
	}
	return l
}

// show quotes names, as some are no text that may be printed.
func show(l []api.Entry) string {
	s := ""
	for _, e := range l {
		s += fmt.Sprintf(" %.20q %d", e.Name, e.Node)
	}
	return "[" + strings.TrimSpace(s) + "]"
}

// looks: what the calls that change nothing tell, each asked twice.
func looks(t *testing.T, l []api.Entry, asked ...string) {
	t.Helper()
	for range 2 {
		if got := name.May(l); got != isList(l) {
			t.Errorf("May(%s): %t", show(l), got)
		}
		var names []string
		for _, e := range l {
			names = append(names, e.Name)
		}
		if got := name.Names(l); !slices.Equal(got, names) {
			t.Errorf("Names(%s): %q", show(l), got)
		}
		for _, s := range asked {
			want := -1
			for i := len(l) - 1; i >= 0; i-- {
				if l[i].Name == s {
					want = l[i].Node
				}
			}
			if got := name.Find(l, s); got != want {
				t.Errorf("Find(%s, %.20q): %d, not %d", show(l), s, got, want)
			}
		}
	}
}

// with: what With tells, asked twice; it leaves the list as it was.
func with(t *testing.T, l []api.Entry, s string, node int) []api.Entry {
	t.Helper()
	was := slices.Clone(l)
	want, wanted := more(l, s, node)
	var got []api.Entry
	var err api.Errno
	for range 2 {
		got, err = name.With(l, s, node)
		if err != wanted || !slices.Equal(got, want) {
			t.Errorf("With(%s, %.20q, %d): %s, %d, not %s, %d", show(l), s, node, show(got), err, show(want), wanted)
		}
	}
	if !slices.Equal(l, was) {
		t.Errorf("With(%s, %.20q, %d) made it %s", show(was), s, node, show(l))
	}
	return got
}

// without: what Without tells, asked twice; it leaves the list as it was.
func without(t *testing.T, l []api.Entry, s string) []api.Entry {
	t.Helper()
	was := slices.Clone(l)
	want, wanted := less(l, s)
	var got []api.Entry
	var err api.Errno
	for range 2 {
		got, err = name.Without(l, s)
		if err != wanted || !slices.Equal(got, want) {
			t.Errorf("Without(%s, %.20q): %s, %d, not %s, %d", show(l), s, show(got), err, show(want), wanted)
		}
	}
	if !slices.Equal(l, was) {
		t.Errorf("Without(%s, %.20q) made it %s", show(was), s, show(l))
	}
	return got
}

// refused: what With and Without told beside an error that is named here, not by the model.
func refused(t *testing.T, what string, l []api.Entry, err, want api.Errno) {
	t.Helper()
	if err != want || len(l) != 0 {
		t.Errorf("%s: %d entries, %d, not %d", what, len(l), err, want)
	}
}

// dice tells numbers that look like none in particular, the same each time.
type dice uint64

func (d *dice) below(n int) int {
	*d = *d*6364136223846793005 + 1442695040888963407
	return int(uint64(*d)>>33) % n
}

// each does f for each list of n of these.
func each(n int, of []api.Entry, f func([]api.Entry)) {
	l := make([]api.Entry, n)
	var fill func(int)
	fill = func(at int) {
		if at == n {
			f(l)
			return
		}
		for _, e := range of {
			l[at] = e
			fill(at + 1)
		}
	}
	fill(0)
}

// P13.1, P13.2: the chapter's example.
func TestExample(t *testing.T) {
	l, err := name.With(nil, "b", 3)
	if err != api.OK || !slices.Equal(l, []api.Entry{{Name: "b", Node: 3}}) {
		t.Fatalf("With(b): %v, %d", l, err)
	}
	l, err = name.With(l, "a", 4)
	if err != api.OK || !slices.Equal(l, []api.Entry{{Name: "a", Node: 4}, {Name: "b", Node: 3}}) {
		t.Fatalf("With(a): %v, %d", l, err)
	}
	if got := name.Names(l); !slices.Equal(got, []string{"a", "b"}) {
		t.Errorf("Names: %q", got)
	}
	if a, b, c := name.Find(l, "a"), name.Find(l, "b"), name.Find(l, "c"); a != 4 || b != 3 || c != -1 {
		t.Errorf("Find: %d, %d, %d", a, b, c)
	}
	l, err = name.Without(l, "b")
	if err != api.OK || !slices.Equal(l, []api.Entry{{Name: "a", Node: 4}}) {
		t.Errorf("Without(b): %v, %d", l, err)
	}
}

// P13.1: lists that may be.
func TestMay(t *testing.T) {
	for _, l := range [][]api.Entry{
		nil, {}, rows("a"), rows("a", "b"), rows("a", "aa", "ab", "b"), rows("-", ".a", "0", "_", "a"), rows("...", ".a"), rows("abcdefgh"),
		rows("0", "1", "2", "3", "4", "5", "6", "7", "8", "9"),
		{{Name: "a", Node: 1}}, {{Name: "a", Node: 11}}, {{Name: "a", Node: 11}, {Name: "b", Node: 1}}, {{Name: "a", Node: 5}, {Name: "b", Node: 5}, {Name: "c", Node: 5}},
	} {
		if !name.May(l) {
			t.Errorf("%v: may not be", l)
		}
		looks(t, l, right...)
	}
}

// P13.1: lists that may not be.
func TestMayNot(t *testing.T) {
	for _, l := range [][]api.Entry{
		{{}}, {{}, {}}, {{Name: "a"}}, {{Node: 1}}, {{Name: "a", Node: 12}}, {{Name: "a", Node: -1}},
		rows("b", "a"), rows("a", "a"), rows("a", "b", "b"), rows("a", "c", "b"), rows("b", "c", "a"), rows("aa", "a"), rows("a", "-"), rows("a", "_"), rows("_", "0"), rows("0", "."),
		{{Name: "a", Node: 1}, {Name: "a", Node: 1}}, {{Name: "a", Node: 1}, {Name: "b", Node: 1}, {Name: "a", Node: 1}},
		{{Name: "a", Node: 1}, {Name: "b", Node: 0}}, {{Name: "a", Node: 0}, {Name: "b", Node: 1}}, {{Name: "a", Node: 1}, {Name: "b", Node: 12}},
		rows("0", "1", "2", "3", "4", "5", "6", "7", "8", "9", "a"),
	} {
		if name.May(l) {
			t.Errorf("%v: may be", l)
		}
		looks(t, l, right...)
		a, err := name.With(l, "new", 2)
		refused(t, "With", a, err, api.ErrArg)
		b, err := name.Without(l, "a")
		refused(t, "Without", b, err, api.ErrArg)
	}
}

// P13.1, P13.2: at most 10 entries, from both sides; beyond that nothing is put in, and nothing taken out.
func TestLength(t *testing.T) {
	for n := range len(right) + 1 {
		l := rows(right[:n]...)
		if got := name.May(l); got != (n <= 10) {
			t.Errorf("%d entries: %t", n, got)
		}
		looks(t, l, slices.Concat(right, wrong)...)
		for _, s := range slices.Concat(right, wrong) {
			with(t, l, s, 7)
			without(t, l, s)
		}
	}
}

// P13.1, P13.2: one name that may not be is enough, wherever it stands, and so is one to be put in; looked for it is found where it is.
func TestWrongNames(t *testing.T) {
	for _, s := range slices.Concat(wrong, right) {
		a, err := name.With(nil, s, 1)
		if isName(s) != (err == api.OK) {
			t.Errorf("With(%q): %s, %d", s, show(a), err)
		}
		for n := 1; n <= 10; n++ {
			for at := range n {
				l := rows(right[:n]...)
				l[at].Name = s
				looks(t, l, s, "a", "-")
				with(t, l, "zz", 1)
				without(t, l, "z")
				without(t, l, s)
				with(t, rows(right[:n]...), s, 1)
				without(t, rows(right[:n]...), s)
			}
		}
	}
}

// P13.1, P13.2: nodes 1 to 11, from both sides, wherever they stand.
func TestNodes(t *testing.T) {
	const far = 1 << 32
	for _, node := range []int{math.MinInt, -far, -far + 1, -2, -1, 0, 1, 2, 10, 11, 12, 13, far, far + 1, far + 11, math.MaxInt} {
		is := node >= 1 && node <= 11
		a, err := name.With(nil, "a", node)
		if is != (err == api.OK) || len(a) == 1 && a[0] != (api.Entry{Name: "a", Node: node}) {
			t.Errorf("With(a, %d): %v, %d", node, a, err)
		}
		for n := 1; n <= 10; n++ {
			for at := range n {
				l := rows(right[:n]...)
				with(t, l, "zz", node)
				with(t, l, right[at], node)
				l[at].Node = node
				if got := name.May(l); got != is {
					t.Errorf("%v: %t", l, got)
				}
				looks(t, l, right[:n]...)
				with(t, l, "zz", 1)
				without(t, l, right[at])
			}
		}
	}
}

// P13.1: rising is byte by byte, and no two the same: all pairs, at all places of a list.
func TestRising(t *testing.T) {
	if !slices.IsSorted(right) {
		t.Fatal("the names do not rise")
	}
	for i, a := range right {
		for j, b := range right {
			l := rows(a, b)
			if got := name.May(l); got != (i < j) {
				t.Errorf("%q, %q: %t", a, b, got)
			}
			for n := 2; n <= 10; n++ {
				for at := range n - 1 {
					l := rows(right[5 : 5+n]...)
					l[at].Name, l[at+1].Name = a, b
					looks(t, l, a, b)
				}
			}
		}
	}
}

// P13.1: of several entries of a name Find tells the first, whatever the list; one that is only the beginning of a name is none.
func TestFind(t *testing.T) {
	l := []api.Entry{{Name: "b", Node: 7}, {Name: "a", Node: 3}, {Name: "b", Node: 2}, {Name: "a", Node: 9}, {Name: "", Node: -5}, {Name: "", Node: 4}, {Name: "/", Node: 1 << 40}, {Name: "c", Node: -1}, {Name: "abc", Node: 6}, {Name: "é", Node: 0}}
	for s, want := range map[string]int{"b": 7, "a": 3, "": -5, "/": 1 << 40, "c": -1, "abc": 6, "é": 0, "ab": -1, "abcd": -1, "bc": -1, "B": -1, "\xc3": -1, "e": -1} {
		if got := name.Find(l, s); got != want {
			t.Errorf("%q: %d, not %d", s, got, want)
		}
		if got := name.Find(nil, s); got != -1 {
			t.Errorf("of none: %q: %d", s, got)
		}
		if got := name.Find([]api.Entry{}, s); got != -1 {
			t.Errorf("of none: %q: %d", s, got)
		}
	}
}

// P13.1: Names keeps the list's order, and keeps what stands there more than once.
func TestNames(t *testing.T) {
	for _, want := range [][]string{nil, {"a"}, {"a", "b"}, {"b", "a"}, {"a", "a", "a"}, {"c", "a", "b", "a"}, {"", ".", "/", "", "\xff"}, right, wrong, slices.Repeat([]string{"b", "a"}, 500)} {
		if got := name.Names(rows(want...)); !slices.Equal(got, want) {
			t.Errorf("%q: %q", want, got)
		}
	}
	if got := name.Names([]api.Entry{}); len(got) != 0 {
		t.Errorf("%q", got)
	}
}

// P13.2: the first error of the sentence is told, where several apply.
func TestErrors(t *testing.T) {
	full := rows(right[:10]...)
	long := rows(right[:11]...)
	some := rows("a", "b", "c")
	for _, x := range []struct {
		what string
		l    []api.Entry
		s    string
		node int
		want api.Errno
	}{
		{"all is well", some, "d", 1, api.OK},
		{"it is there", some, "b", 2, api.ErrThere},
		{"it is there, of another node", some, "b", 9, api.ErrThere},
		{"the node is there, by another name", some, "d", 2, api.OK},
		{"it is full", full, "zz", 1, api.ErrNodes},
		{"it is full, ahead of all", full, "--", 1, api.ErrNodes},
		{"it is full, and the name is there", full, right[0], 1, api.ErrThere},
		{"it is full, and the name is the last that is there", full, right[9], 11, api.ErrThere},
		{"it is full, and the name may not be", full, "A", 1, api.ErrArg},
		{"it is full, and the node may not be", full, "zz", 12, api.ErrArg},
		{"it is there, and the node may not be", some, "b", 0, api.ErrArg},
		{"it is full and there, and the node may not be", full, right[0], 12, api.ErrArg},
		{"too long, and it is there", long, right[0], 1, api.ErrArg},
		{"too long", long, "zz", 1, api.ErrArg},
		{"falling, and it is there", rows("b", "a"), "a", 1, api.ErrArg},
		{"falling, and full", slices.Concat(rows(right[1:10]...), rows("-")), "zz", 1, api.ErrArg},
		{"a wrong name that is there", rows("A", "b"), "A", 1, api.ErrArg},
	} {
		got, err := name.With(x.l, x.s, x.node)
		if err != x.want || (len(got) != 0) != (err == api.OK) {
			t.Errorf("%s: %v, %d, not %d", x.what, got, err, x.want)
		}
		with(t, x.l, x.s, x.node)
	}
	for _, x := range []struct {
		what string
		l    []api.Entry
		s    string
		want api.Errno
	}{
		{"all is well", some, "a", api.OK},
		{"it is full", full, right[9], api.OK},
		{"none is there", nil, "a", api.ErrNone},
		{"another is there", some, "d", api.ErrNone},
		{"only its beginning is there", some, "aa", api.ErrNone},
		{"only a longer one is there", rows("aa"), "a", api.ErrNone},
		{"no name", some, "", api.ErrNone},
		{"a wrong name", some, "A", api.ErrNone},
		{"too long", long, right[0], api.ErrArg},
		{"too long, and it is not there", long, "zz", api.ErrArg},
		{"falling", rows("b", "a"), "a", api.ErrArg},
		{"falling, and it is not there", rows("b", "a"), "c", api.ErrArg},
		{"twice there", rows("a", "a"), "a", api.ErrArg},
		{"of a node that may not be", []api.Entry{{Name: "a", Node: 0}}, "a", api.ErrArg},
	} {
		got, err := name.Without(x.l, x.s)
		if err != x.want || (len(got) != 0) != (err == api.OK) {
			t.Errorf("%s: %v, %d, not %d", x.what, got, err, x.want)
		}
		without(t, x.l, x.s)
	}
}

// P13.1, P13.2: all lists of some entries, up to four of them, and all that may be put in and taken out.
func TestSmall(t *testing.T) {
	of := []api.Entry{{Name: "a", Node: 1}, {Name: "ab", Node: 11}, {Name: "b", Node: 1}, {Name: "-", Node: 5}, {Name: ".", Node: 5}, {Name: "a", Node: 0}, {Name: "z", Node: 12}}
	lists := 0
	for n := range 5 {
		each(n, of, func(l []api.Entry) {
			if name.May(l) {
				lists++
			}
			looks(t, l, "a", "ab", "b", "-", ".", "z", "")
			for _, e := range of {
				with(t, l, e.Name, e.Node)
				without(t, l, e.Name)
			}
			with(t, l, "aa", 3)
			without(t, l, "aa")
		})
	}
	// Each set of the four entries that may be is one list.
	if lists != 16 {
		t.Errorf("%d lists may be", lists)
	}
}

// P13.2, P13.3: at each place of lists of all lengths: what is put in is found, what is taken out again is as it was, and the other way round.
func TestBack(t *testing.T) {
	for n := range 11 {
		for skip := range n + 1 {
			all := rows(right[:n+1]...)
			l := slices.Delete(slices.Clone(all), skip, skip+1)
			e := all[skip]
			a, err := name.With(l, e.Name, e.Node)
			if n == 10 {
				refused(t, "With", a, err, api.ErrNodes)
				continue
			}
			if err != api.OK || !slices.Equal(a, all) || !name.May(a) || name.Find(a, e.Name) != e.Node {
				t.Errorf("With(%v, %v): %v, %d", l, e, a, err)
			}
			b, err := name.Without(a, e.Name)
			if err != api.OK || !slices.Equal(b, l) || !name.May(b) || name.Find(b, e.Name) != -1 {
				t.Errorf("Without(%v, %q): %v, %d", a, e.Name, b, err)
			}
			c, err := name.With(b, e.Name, e.Node)
			if err != api.OK || !slices.Equal(c, all) {
				t.Errorf("With(%v, %v): %v, %d", b, e, c, err)
			}
		}
	}
}

// P13.2: whatever the order in which entries are put in, the same list comes of it; and taken out in whatever order, nothing is left.
func TestEachOrder(t *testing.T) {
	all := rows("-", ".a", "0", "_", "a", "aa")
	orders := 0
	var put func(l, order, left []api.Entry)
	put = func(l, order, left []api.Entry) {
		if len(left) == 0 {
			orders++
			if !slices.Equal(l, all) {
				t.Errorf("put in as %v: %v", order, l)
			}
			for _, e := range order {
				l = without(t, l, e.Name)
			}
			if len(l) != 0 {
				t.Errorf("taken out as %v: %v", order, l)
			}
		}
		for i, e := range left {
			put(with(t, l, e.Name, e.Node), append(slices.Clone(order), e), slices.Delete(slices.Clone(left), i, i+1))
		}
	}
	put(nil, nil, all)
	if orders != 720 {
		t.Errorf("%d orders", orders)
	}
}

// P13.3: long rows of calls, against a map: full directories and empty ones, errors among them.
func TestLongRows(t *testing.T) {
	d := dice(1)
	told := map[api.Errno]int{}
	for range 200 {
		l, m := []api.Entry(nil), map[string]int{}
		some := slices.Concat(right[:12], wrong[:2])
		if d.below(2) == 0 {
			some = some[:6]
		}
		for range 100 {
			s, node := some[d.below(len(some))], d.below(14)-1
			var got []api.Entry
			var err api.Errno
			if d.below(5) > 0 {
				got, err = name.With(l, s, node)
				if err == api.OK {
					m[s] = node
				}
			} else {
				got, err = name.Without(l, s)
				if err == api.OK {
					delete(m, s)
				}
			}
			told[err]++
			if err == api.OK {
				l = got
			}
			if !slices.Equal(l, listed(m)) || !name.May(l) {
				t.Fatalf("%v, not %v", l, listed(m))
			}
			looks(t, l, some...)
		}
	}
	for _, err := range []api.Errno{api.OK, api.ErrArg, api.ErrThere, api.ErrNodes, api.ErrNone} {
		if told[err] < 100 {
			t.Errorf("error %d: %d times", err, told[err])
		}
	}
}

// R2: what stands behind the list's length is neither looked at nor written.
func TestBehind(t *testing.T) {
	for n := range 12 {
		for _, junk := range [][]api.Entry{rows("zz", "zzz", "zzzz"), rows("A", "", "-"), make([]api.Entry, 3)} {
			whole := slices.Concat(rows(right[:n]...), junk)
			was := slices.Clone(whole)
			l := whole[:n]
			looks(t, l, "zz", "A", "", "-")
			for _, s := range slices.Concat(right, []string{"zz", "A", ""}) {
				with(t, l, s, 3)
				without(t, l, s)
			}
			if !slices.Equal(whole, was) {
				t.Errorf("%v made %v", was, whole)
			}
		}
	}
}

// spoil writes over a list, and over all that its memory has room for.
func spoil(l []api.Entry) {
	l = l[:cap(l)]
	for i := range l {
		l[i] = api.Entry{Name: "spoilt", Node: -9}
	}
}

// R2: what is told is new memory: neither the caller's list nor an earlier answer changes with it, nor it with them.
func TestNewMemory(t *testing.T) {
	for n := range 11 {
		for _, s := range right {
			whole := slices.Concat(rows(right[:n]...), rows("x", "y", "z"))
			was := slices.Clone(whole)
			a, _ := name.With(whole[:n], s, 3)
			other, _ := name.With(whole[:n], s, 3)
			b, _ := name.Without(whole[:n], s)
			another, _ := name.Without(whole[:n], s)
			names := name.Names(whole[:n])
			wantA, wantB := slices.Clone(a), slices.Clone(b)
			spoil(other)
			spoil(another)
			if !slices.Equal(whole, was) {
				t.Errorf("%v spoilt: %v", was, whole)
			}
			spoil(whole)
			if !slices.Equal(a, wantA) || !slices.Equal(b, wantB) || !slices.Equal(names, right[:n]) {
				t.Errorf("%d entries, %q: %v, %v, %q", n, s, a, b, names)
			}
		}
	}
}

// R2: each answer of Names is a new one.
func TestNamesNew(t *testing.T) {
	l := rows("a", "b", "c")
	first := name.Names(l)
	for i := range first {
		first[i] = "zz"
	}
	_ = append(first[:0], slices.Repeat([]string{"zz"}, cap(first))...)
	looks(t, l, "a", "b", "c", "zz")
}

// R3: a name that is long, asked for and in the list.
func TestLongName(t *testing.T) {
	long := strings.Repeat("a", 1<<24)
	some := rows("a", "b")
	l := []api.Entry{{Name: long, Node: 1}}
	if name.Find(some, long) != -1 || name.Find(l, long) != 1 || name.Find(l, "a") != -1 || name.May(l) {
		t.Error("Find, May")
	}
	if names := name.Names(l); len(names) != 1 || names[0] != long {
		t.Error("Names")
	}
	got, err := name.With(some, long, 1)
	refused(t, "With", got, err, api.ErrArg)
	got, err = name.With(l, "b", 1)
	refused(t, "With", got, err, api.ErrArg)
	got, err = name.Without(some, long)
	refused(t, "Without", got, err, api.ErrNone)
	got, err = name.Without(l, long)
	refused(t, "Without", got, err, api.ErrArg)
}

// R3: a list that is long.
func TestLongList(t *testing.T) {
	l := slices.Repeat(rows("a", "b"), 1<<19)
	if name.May(l) || len(name.Names(l)) != 1<<20 || name.Find(l, "b") != 2 || name.Find(l, "c") != -1 {
		t.Error("May, Names, Find")
	}
	for _, s := range []string{"a", "b", "c", ""} {
		got, err := name.With(l, s, 1)
		refused(t, "With", got, err, api.ErrArg)
		got, err = name.Without(l, s)
		refused(t, "Without", got, err, api.ErrArg)
	}
}

// R3: whatever is handed in, each call ends, and tells what it should.
func TestAnything(t *testing.T) {
	d := dice(2)
	some := slices.Concat(right, wrong)
	lists := 0
	for range 20000 {
		l := make([]api.Entry, d.below(13))
		for i := range l {
			l[i] = api.Entry{Name: some[d.below(len(some))], Node: d.below(15) - 1}
			if d.below(10) > 0 {
				l[i] = api.Entry{Name: right[d.below(len(right))], Node: 1 + d.below(11)}
			}
		}
		if d.below(10) > 0 {
			slices.SortFunc(l, func(a, b api.Entry) int { return strings.Compare(a.Name, b.Name) })
		}
		if d.below(10) > 0 {
			l = slices.CompactFunc(l, func(a, b api.Entry) bool { return a.Name == b.Name })
		}
		if name.May(l) {
			lists++
		}
		s := some[d.below(len(some))]
		looks(t, l, s)
		with(t, l, s, d.below(15)-1)
		without(t, l, s)
	}
	if lists < 2000 || lists > 18000 {
		t.Errorf("%d lists may be", lists)
	}
}
