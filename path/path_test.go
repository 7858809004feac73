package path_test

import (
	"regexp"
	"slices"
	"strings"
	"testing"

	"potsherd/api"
	"potsherd/path"
)

// letters are all bytes that a name may have.
const letters = "abcdefghijklmnopqrstuvwxyz0123456789._-"

// rule is what a name looks like, told in another way; `.` and `..` look so, too.
var rule = regexp.MustCompile(`\A[a-z0-9._-]{1,8}\z`)

func isName(s string) bool {
	return rule.MatchString(s) && s != "." && s != ".."
}

// taken is what Split should tell, found byte by byte, and whether s is a path.
func taken(s string) ([]string, bool) {
	if s == "/" {
		return nil, true
	}
	var l []string
	for i := range len(s) {
		if s[i] == '/' {
			l = append(l, "")
		} else if len(l) == 0 {
			return nil, false
		} else {
			l[len(l)-1] += s[i : i+1]
		}
	}
	for _, name := range l {
		if !isName(name) {
			return nil, false
		}
	}
	return l, len(l) > 0 && len(s) <= 60
}

// refused: a text that is no path, by Split and by Last.
func refused(t *testing.T, s string) {
	t.Helper()
	if l, err := path.Split(s); err != api.ErrName || len(l) != 0 {
		t.Errorf("Split(%.80q): %q, %d", s, l, err)
	}
	if dir, name, err := path.Last(s); err != api.ErrName || dir != "" || name != "" {
		t.Errorf("Last(%.80q): %q, %q, %d", s, dir, name, err)
	}
}

// told: a path, by Split, Join and Last.
func told(t *testing.T, s string, want ...string) {
	t.Helper()
	if l, err := path.Split(s); err != api.OK || !slices.Equal(l, want) {
		t.Errorf("Split(%q): %q, %d", s, l, err)
	}
	if got := path.Join(want); got != s {
		t.Errorf("Join(%q): %q, not %q", want, got, s)
	}
	if len(want) == 0 {
		if dir, name, err := path.Last(s); err != api.ErrState || dir != "" || name != "" {
			t.Errorf("Last(%q): %q, %q, %d", s, dir, name, err)
		}
		return
	}
	end := strings.LastIndexByte(s, '/')
	ahead := s[:max(end, 1)]
	if dir, name, err := path.Last(s); err != api.OK || dir != ahead || name != s[end+1:] {
		t.Errorf("Last(%q): %q, %q, %d", s, dir, name, err)
	}
}

// asked: a text of which taken says what it is.
func asked(t *testing.T, s string) bool {
	t.Helper()
	l, is := taken(s)
	if is {
		told(t, s, l...)
	} else {
		refused(t, s)
	}
	return is
}

// none: a list of which there is no path.
func none(t *testing.T, l ...string) {
	t.Helper()
	if got := path.Join(l); got != "" {
		t.Errorf("Join(%.80q): %q", l, got)
	}
}

// of is n names, each size bytes long, no two of them the same as long as there are letters.
func of(n, size int) []string {
	l := make([]string, n)
	for i := range l {
		l[i] = strings.Repeat(letters[i%36:i%36+1], size)
	}
	return l
}

// each does f for each text of n bytes of these.
func each(n int, of string, f func(string)) {
	b := make([]byte, n)
	var fill func(int)
	fill = func(at int) {
		if at == n {
			f(string(b))
			return
		}
		for i := range len(of) {
			b[at] = of[i]
			fill(at + 1)
		}
	}
	fill(0)
}

// dice tells numbers that look like none in particular, the same each time.
type dice uint64

func (d *dice) below(n int) int {
	*d = *d*6364136223846793005 + 1442695040888963407
	return int(uint64(*d)>>33) % n
}

// P12.1, P12.2: the chapter's example.
func TestExample(t *testing.T) {
	if l, err := path.Split("/a/b"); err != api.OK || !slices.Equal(l, []string{"a", "b"}) {
		t.Errorf("Split: %q, %d", l, err)
	}
	if dir, name, err := path.Last("/a/b"); err != api.OK || dir != "/a" || name != "b" {
		t.Errorf("Last: %q, %q, %d", dir, name, err)
	}
	if got := path.Join([]string{"a", "b"}); got != "/a/b" {
		t.Errorf("Join: %q", got)
	}
}

// P12.1: names that may be.
func TestMay(t *testing.T) {
	for _, s := range []string{
		"a", "z", "0", "9", "_", "-", "m", "5", "az", "09", "a0", "0a", "abcdefgh", "stuvwxyz", "01234567", "89",
		"...", "....", "........", ".a", "a.", "..a", "a..", ".a.", "a.b", ".-", "._", "-.", "_.", ".0", "..-", "._.", "--", "-a", "__", "._-", "a.txt", "x_y-z.0",
	} {
		for range 2 {
			if !path.May(s) {
				t.Errorf("%q: may not be", s)
			}
		}
	}
}

// P12.1: names that may not be.
func TestMayNot(t *testing.T) {
	for _, s := range []string{
		"", ".", "..", "/", "a/", "/a", "a/b", "./", "../", "/.", "//", " ", "a b", " a", "a ", "\t", "a\n", "\n", "\x00", "a\x00", "\x00a", "A", "Z", "aB", "Ab", "a:", "a*", "a+b", "~", "a,b",
		"abcdefghi", "0123456789", ".........", "---------", "a\\b", "%61", "a=", "@", "[", "`", "{", "^", "\x7f", "\x80", "\xff", "a\xff", "\xc0\xae", "\xe0\x80\xaf", "\xc1\xa1", "\xed\xa0\x80",
		"é", "aé", "ß", "ı", "ſ", "\u212a", "a\u0301", "\uff41", "\uff10", "\u2024", "\u2025", "\u2010", "\u00b2", "\u0660", "\ufffd", "\ufeffa", "\U0001d41a", "\U00010061", "\u0161", "\u0130", "\u012e", "\u015f", "\u012d",
	} {
		for range 2 {
			if path.May(s) {
				t.Errorf("%q: may be", s)
			}
		}
		none(t, s)
		none(t, "a", s)
		none(t, s, "a")
	}
}

// P12.1: each byte, at each place of names of each length.
func TestMayEachByte(t *testing.T) {
	for d := range 256 {
		is := strings.IndexByte(letters, byte(d)) >= 0
		for size := 1; size <= 10; size++ {
			for at := range size {
				b := []byte(strings.Repeat("q", size))
				b[at] = byte(d)
				want := is && size <= 8 && string(b) != "."
				if got := path.May(string(b)); got != want {
					t.Errorf("%q: %t", b, got)
				}
			}
		}
	}
}

// P12.1: all names of three bytes at most, of all bytes that may be and those beside them.
func TestMayShort(t *testing.T) {
	for n := range 4 {
		each(n, letters+"`{/:,^+A\x00\x80\xc3\xff", func(s string) {
			if got := path.May(s); got != isName(s) {
				t.Errorf("%q: %t", s, got)
			}
		})
	}
}

// P12.1: 1 to 8 bytes, counted as bytes.
func TestMayLength(t *testing.T) {
	for _, c := range []string{"a", "z", "0", "9", "_", "-"} {
		for n := range 300 {
			if got := path.May(strings.Repeat(c, n)); got != (n >= 1 && n <= 8) {
				t.Errorf("%d times %s: %t", n, c, got)
			}
		}
	}
	for n := range 300 {
		if got := path.May(strings.Repeat(".", n)); got != (n >= 3 && n <= 8) {
			t.Errorf("%d dots: %t", n, got)
		}
		if path.May(strings.Repeat("é", n)) {
			t.Errorf("%d times é", n)
		}
	}
	if path.May(strings.Repeat("a", 1<<24)) {
		t.Error("a long one")
	}
}

// P12.1, P12.2: what is a path.
func TestPaths(t *testing.T) {
	for range 2 {
		told(t, "/")
		told(t, "/a", "a")
		told(t, "/a/b", "a", "b")
		told(t, "/a/a/a", "a", "a", "a")
		told(t, "/b/a", "b", "a")
		told(t, "/...", "...")
		told(t, "/.a/..b/c.", ".a", "..b", "c.")
		told(t, "/-/_/0", "-", "_", "0")
		told(t, "/abcdefgh", "abcdefgh")
		told(t, "/abcdefgh/ijklmnop/z", "abcdefgh", "ijklmnop", "z")
		told(t, "/x.txt", "x.txt")
	}
}

// P12.1, P12.2: what is none.
func TestNoPaths(t *testing.T) {
	for _, s := range []string{
		"", "a", "a/", "a/b", ".", "..", "./a", "../a", " ", " /", " /a", "\x00", "\x00/a", "\\a", "b/a/", "abcdefgh",
		"//", "///", "//a", "/a/", "/a//", "/a//b", "/a/b/", "//a/b", "/a/b//",
		"/.", "/..", "/./", "/../", "/./a", "/../a", "/a/.", "/a/..", "/a/./b", "/a/../b", "/.//", "/././.",
		"/A", "/a/B", "/B/a", "/a b", "/ ", "/a ", "/ a", "/a\n", "/a\x00", "/\x00", "/a\x00/b", "/a\\b", "/a:b", "/é", "/a/é", "/\xff", "/a/\xff", "/\xc0\xaf", "/\xc0\xaea", "/a\u2044b", "/\uff0fa", "\uff0fa", "\ufeff/a",
		"/abcdefghi", "/abcdefghi/a", "/a/abcdefghi", "/a/abcdefghi/a", "/a/b/?", "/?/a/b", "/a/?/b", "file:/a", "/%2e", "/*",
	} {
		for range 2 {
			refused(t, s)
		}
	}
}

// P12.1, P12.2: a path has 60 bytes at most, whatever names it has.
func TestLongest(t *testing.T) {
	long := slices.Repeat([]string{"abcdefgh"}, 6)
	for size := 1; size <= 8; size++ {
		for _, last := range [][]string{{strings.Repeat("z", size)}, {"y", strings.Repeat("z", max(size-2, 1))}} {
			l := slices.Concat(long, last)
			s := "/" + strings.Join(l, "/")
			if len(s) <= 60 {
				told(t, s, l...)
			} else {
				refused(t, s)
				none(t, l...)
			}
		}
	}
	told(t, "/abcdefgh/abcdefgh/abcdefgh/abcdefgh/abcdefgh/abcdefgh/12345", append(long[:6:6], "12345")...)
	refused(t, "/abcdefgh/abcdefgh/abcdefgh/abcdefgh/abcdefgh/abcdefgh/123456")
	none(t, append(long[:6:6], "123456")...)
	refused(t, "/abcdefgh/abcdefgh/abcdefgh/abcdefgh/abcdefgh/abcdefgh/1234/")
	refused(t, "/abcdefgh/abcdefgh/abcdefgh/abcdefgh/abcdefgh/abcdefgh/12345/")
	refused(t, "abcdefgh/abcdefgh/abcdefgh/abcdefgh/abcdefgh/abcdefgh/abcdef")
	refused(t, "/abcdefgh/abcdefgh/abcdefgh/abcdefgh/abcdefgh/abcdefgh/1234A")
	refused(t, "/abcdefgh/abcdefgh/abcdefgh/abcdefgh/abcdefgh/abcdefgh/1234é")
}

// P12.1: as many names as there is room for, and no other bound of how many: each number of names, each size.
func TestManyNames(t *testing.T) {
	for n := range 70 {
		for size := 1; size <= 10; size++ {
			l := of(n, size)
			s := "/" + strings.Join(l, "/")
			if len(s) <= 60 && (size <= 8 || n == 0) {
				told(t, s, l...)
			} else {
				refused(t, s)
				none(t, l...)
			}
		}
	}
}

// P12.1: all texts of some bytes, up to seven of them.
func TestSplitShort(t *testing.T) {
	paths := 0
	for n := range 8 {
		each(n, "/.aZ\xff", func(s string) {
			if asked(t, s) {
				paths++
			}
		})
	}
	if paths != 1+1+3+9+22+58+153 {
		t.Errorf("%d paths", paths)
	}
}

// P12.1: each byte in each place of a path.
func TestSplitEachByte(t *testing.T) {
	for _, s := range []string{"/", "/a", "/ab/c", "/abcdefgh/i/jk", "/...", "/" + strings.Join(of(30, 1), "/")} {
		for at := range len(s) {
			for d := range 256 {
				b := []byte(s)
				b[at] = byte(d)
				if asked(t, string(b)) && d != '/' && strings.IndexByte(letters, byte(d)) < 0 {
					t.Errorf("%q", b)
				}
			}
		}
	}
}

// P12.1: of nothing it is `/`, nil or empty, with names behind its length or without.
func TestJoinNone(t *testing.T) {
	for _, l := range [][]string{nil, {}, []string{"a", "?"}[:0], make([]string, 0, 100)} {
		if got := path.Join(l); got != "/" {
			t.Errorf("%q", got)
		}
	}
}

// P12.1: one name that may not be is enough, wherever it stands; names are not split.
func TestJoinNot(t *testing.T) {
	for _, bad := range []string{"", ".", "..", "/", "a/b", "/a", "a/", "A", "é", "\xff", "abcdefghi", "a b"} {
		for n := 1; n <= 30; n++ {
			for at := range n {
				l := of(n, 1)
				l[at] = bad
				none(t, l...)
			}
		}
	}
	none(t, "")
	none(t, "", "")
	none(t, strings.Repeat("a", 1<<24))
	none(t, of(1<<20, 1)...)
	none(t, of(1<<20, 8)...)
	none(t, make([]string, 1<<20)...)
}

// P12.2: Split's error, `/`, and all that is left.
func TestLast(t *testing.T) {
	for _, x := range []struct {
		s, dir, name string
		err          api.Errno
	}{
		{"/", "", "", api.ErrState},
		{"", "", "", api.ErrName},
		{"//", "", "", api.ErrName},
		{"a", "", "", api.ErrName},
		{"/.", "", "", api.ErrName},
		{"/a/", "", "", api.ErrName},
		{"/a/..", "", "", api.ErrName},
		{"/A/b", "", "", api.ErrName},
		{"/a/B", "", "", api.ErrName},
		{"/a", "/", "a", api.OK},
		{"/abcdefgh", "/", "abcdefgh", api.OK},
		{"/a/b", "/a", "b", api.OK},
		{"/b/a", "/b", "a", api.OK},
		{"/a/a", "/a", "a", api.OK},
		{"/a/b/c", "/a/b", "c", api.OK},
		{"/.../._", "/...", "._", api.OK},
		{"/12345678/12345678/12345678/12345678/12345678/12345678/12345", "/12345678/12345678/12345678/12345678/12345678/12345678", "12345", api.OK},
		{"/12345678/12345678/12345678/12345678/12345678/12345678/123456", "", "", api.ErrName},
		{"/0/0/0/0/0/0/0/0/0/0/0/0/0/0/0/0/0/0/0/0/0/0/0/0/0/0/0/0/0/z", "/0/0/0/0/0/0/0/0/0/0/0/0/0/0/0/0/0/0/0/0/0/0/0/0/0/0/0/0/0", "z", api.OK},
	} {
		for range 2 {
			if dir, name, err := path.Last(x.s); dir != x.dir || name != x.name || err != x.err {
				t.Errorf("%q: %q, %q, %d", x.s, dir, name, err)
			}
		}
	}
}

// P12.2: name by name from behind, one comes to `/`, and the names are those of Split.
func TestLastAgain(t *testing.T) {
	for n := range 31 {
		want := of(n, min(60/max(n, 1)-1, 8))
		s := path.Join(want)
		var got []string
		for len(got) < n {
			dir, name, err := path.Last(s)
			if err != api.OK || dir != path.Join(want[:n-len(got)-1]) {
				t.Fatalf("%q: %q, %q, %d", s, dir, name, err)
			}
			s, got = dir, append(got, name)
		}
		slices.Reverse(got)
		if !slices.Equal(got, want) || s != "/" {
			t.Errorf("%q: %q, %q", want, got, s)
		}
	}
}

// P12.3: all lists of some names, up to four of them: what is joined is split as it was, and joined again is the same.
func TestBack(t *testing.T) {
	names := []string{"a", "b", "ab", "...", ".b", "-", "abcdefgh", "", ".", "..", "/", "a/b", "A", "é", "abcdefghi"}
	joined := 0
	var fill func([]string)
	fill = func(l []string) {
		s := path.Join(l)
		if may := !slices.ContainsFunc(l, func(name string) bool { return !isName(name) }); (s != "") != may {
			t.Errorf("%q: %q", l, s)
		}
		if s != "" {
			joined++
			told(t, s, l...)
		}
		if len(l) == 4 {
			return
		}
		for _, name := range names {
			fill(append(slices.Clone(l), name))
		}
	}
	fill(nil)
	if want := 1 + 7 + 7*7 + 7*7*7 + 7*7*7*7; joined != want {
		t.Errorf("%d, not %d", joined, want)
	}
}

// P12.3: lists of all kinds of names, as long as a path may be and longer.
func TestBackLong(t *testing.T) {
	d, joined := dice(1), 0
	for range 50000 {
		var l []string
		size := 0
		for range d.below(32) {
			b := make([]byte, 1+d.below(1+d.below(8)))
			for i := range b {
				b[i] = letters[d.below(36)]
			}
			l = append(l, string(b))
			size += 1 + len(b)
		}
		s := path.Join(l)
		if (s != "") != (size <= 60) {
			t.Errorf("%q: %q, %d bytes", l, s, size)
		}
		if s != "" {
			joined++
			told(t, s, l...)
		}
	}
	if joined < 10000 || joined > 40000 {
		t.Errorf("%d joined", joined)
	}
}

// R3: whatever is handed in, each call ends, and what is taken for a path is one.
func TestAnything(t *testing.T) {
	d, paths := dice(2), 0
	some := letters[20:] + letters + letters + "////////////A \x00\xff"
	for range 100000 {
		b := []byte("/")
		for range d.below(1 + d.below(70)) {
			b = append(b, some[d.below(len(some))])
		}
		if d.below(10) == 0 {
			b[d.below(len(b))] = byte(d.below(256))
		}
		if asked(t, string(b)) {
			paths++
		}
	}
	if paths < 10000 || paths > 90000 {
		t.Errorf("%d paths", paths)
	}
}

// R3: texts that are long.
func TestHuge(t *testing.T) {
	for _, s := range []string{"/", "a", "/a", "/abcdefgh", ".", "/.", "\x00", "\xff", "é", "/é"} {
		for _, n := range []int{62, 128, 256, 1 << 16, 1 << 24} {
			refused(t, strings.Repeat(s, n))
			refused(t, "/"+strings.Repeat(s, n))
		}
	}
	refused(t, "/a"+strings.Repeat("\x00", 1<<20))
}

// R2: the list that is handed in is left as it was, and so is what lies behind its length.
func TestJoinKeeps(t *testing.T) {
	for _, was := range [][]string{{"a", "b", "c", "?", ""}, {"a", "?", "c", "d", "e"}, {"abcdefgh", "", ".", "..", "a"}} {
		for n := range len(was) + 1 {
			l := slices.Clone(was)
			first := path.Join(l[:n])
			if !slices.Equal(l, was) {
				t.Errorf("%q of %d changed: %q", was, n, l)
			}
			other := path.Join(slices.Clone(was[:n]))
			for i := range l {
				l[i] = "zz"
			}
			if first != other {
				t.Errorf("%q of %d: %q, %q", was, n, first, other)
			}
		}
	}
}

// R2: the list that is told is the caller's own, each time a new one.
func TestSplitNew(t *testing.T) {
	for _, s := range []string{"/", "/a", "/a/b", "/abcdefgh/i/jk", "/" + strings.Join(of(30, 1), "/")} {
		want, _ := taken(s)
		first, _ := path.Split(s)
		other, _ := path.Split(s)
		for i := range first {
			first[i] = "zz"
		}
		_ = append(first, "zz", "zz")
		_ = append(first[:0], slices.Repeat([]string{"zz"}, cap(first))...)
		if !slices.Equal(other, want) {
			t.Errorf("%q: shared: %q", s, other)
		}
		told(t, s, want...)
	}
}
