package wear_test

import (
	"math"
	"slices"
	"testing"

	"potsherd/wear"
)

// sample is what all calls answer of these counts.
type sample struct {
	name             string
	counts           []int
	in               []bool
	low, high, apart int
	coldest, hottest int
	buckets          []int
}

func all(n int) []bool {
	return slices.Repeat([]bool{true}, n)
}

func only(n int, places ...int) []bool {
	in := make([]bool, n)
	for _, p := range places {
		in[p] = true
	}
	return in
}

// spread is so many numbers of buckets, none but the first and the last one of them 0.
func spread(n, first, last int) []int {
	l := make([]int, n)
	l[0], l[n-1] = first, last
	return l
}

var samples = []sample{
	{"the example", []int{5, 2, 2}, all(3), 2, 5, 3, 1, 0, []int{2, 0, 0, 1}},
	{"no lists", nil, nil, 0, 0, 0, -1, -1, nil},
	{"empty lists", []int{}, []bool{}, 0, 0, 0, -1, -1, nil},
	{"no counts", nil, all(3), 0, 0, 0, -1, -1, nil},
	{"no in", []int{4, 5}, nil, 0, 0, 0, -1, -1, nil},
	{"none is in", []int{4, 5, 6}, only(3), 0, 0, 0, -1, -1, nil},
	{"one", []int{7}, all(1), 7, 7, 0, 0, 0, []int{1}},
	{"one of 0", []int{0}, all(1), 0, 0, 0, 0, 0, []int{1}},
	{"one in", []int{4, 9, 1}, only(3, 1), 9, 9, 0, 1, 1, []int{1}},
	{"the last one", []int{4, 9, 1}, only(3, 2), 1, 1, 0, 2, 2, []int{1}},
	{"all the same", []int{3, 3, 3, 3}, all(4), 3, 3, 0, 0, 0, []int{4}},
	{"the same, from the second on", []int{3, 3, 3, 3}, only(4, 1, 3), 3, 3, 0, 1, 1, []int{2}},
	{"up", []int{1, 2, 3, 4}, all(4), 1, 4, 3, 0, 3, []int{1, 1, 1, 1}},
	{"down", []int{4, 3, 2, 1}, all(4), 1, 4, 3, 3, 0, []int{1, 1, 1, 1}},
	{"the first of some", []int{5, 1, 9, 1, 9, 5}, all(6), 1, 9, 8, 1, 2, []int{2, 0, 0, 0, 2, 0, 0, 0, 2}},
	{"the lowest and greatest are not in", []int{0, 5, 99, 6, 5, 6}, only(6, 1, 3, 4, 5), 5, 6, 1, 1, 3, []int{2, 2}},
	{"more counts than in", []int{5, 6, 0, 99}, all(2), 5, 6, 1, 0, 1, []int{1, 1}},
	{"more in than counts", []int{5, 6}, all(90), 5, 6, 1, 0, 1, []int{1, 1}},
	{"in from beyond the counts on", []int{5, 6}, only(90, 2, 3, 89), 0, 0, 0, -1, -1, nil},
	{"below 0", []int{-3, 0, -5, 2}, all(4), -5, 2, 7, 2, 3, []int{1, 0, 1, 0, 0, 1, 0, 1}},
	{"all below 0", []int{-3, -1, -3}, all(3), -3, -1, 2, 0, 1, []int{2, 0, 1}},
	{"999 apart", []int{1000, 1}, all(2), 1, 1000, 999, 1, 0, spread(1000, 1, 1)},
	{"1000 apart", []int{7, 1007, 7}, all(3), 7, 1007, 1000, 0, 1, spread(1001, 2, 1)},
	{"1001 apart", []int{7, 1008}, all(2), 7, 1008, 1001, 0, 1, nil},
	{"1002 apart", []int{7, 1009}, all(2), 7, 1009, 1002, 0, 1, nil},
	{"1000 apart across 0", []int{500, -500}, all(2), -500, 500, 1000, 1, 0, spread(1001, 1, 1)},
	{"1001 apart across 0", []int{500, -501}, all(2), -501, 500, 1001, 1, 0, nil},
	{"far apart beside one that is not in", []int{1 << 40, 3, 4}, only(3, 1, 2), 3, 4, 1, 1, 2, []int{1, 1}},
	{"2^32 apart", []int{0, 1 << 32}, all(2), 0, 1 << 32, 1 << 32, 0, 1, nil},
	{"2^62 on both sides", []int{-1 << 62, 1 << 62}, all(2), -1 << 62, 1 << 62, math.MaxInt, 0, 1, nil},
	{"just the greatest difference", []int{-1 << 62, 1<<62 - 1}, all(2), -1 << 62, 1<<62 - 1, math.MaxInt, 0, 1, nil},
	{"one below it", []int{-1 << 62, 1<<62 - 2}, all(2), -1 << 62, 1<<62 - 2, math.MaxInt - 1, 0, 1, nil},
	{"the greatest one and 0", []int{math.MaxInt, 0}, all(2), 0, math.MaxInt, math.MaxInt, 1, 0, nil},
	{"the greatest one and 1", []int{math.MaxInt, 1}, all(2), 1, math.MaxInt, math.MaxInt - 1, 1, 0, nil},
	{"the greatest one and -1", []int{math.MaxInt, -1}, all(2), -1, math.MaxInt, math.MaxInt, 1, 0, nil},
	{"the least one and -1", []int{math.MinInt, -1}, all(2), math.MinInt, -1, math.MaxInt, 0, 1, nil},
	{"the least one and -2", []int{math.MinInt, -2}, all(2), math.MinInt, -2, math.MaxInt - 1, 0, 1, nil},
	{"the least one and 0", []int{math.MinInt, 0}, all(2), math.MinInt, 0, math.MaxInt, 0, 1, nil},
	{"both ends", []int{0, math.MaxInt, math.MinInt}, all(3), math.MinInt, math.MaxInt, math.MaxInt, 2, 1, nil},
	{"near the greatest one", []int{math.MaxInt, math.MaxInt - 2, math.MaxInt}, all(3), math.MaxInt - 2, math.MaxInt, 2, 1, 0, []int{1, 0, 2}},
	{"near the least one", []int{math.MinInt + 2, math.MinInt, math.MinInt}, all(3), math.MinInt, math.MinInt + 2, 2, 1, 0, []int{2, 0, 1}},
	{"1000 from the greatest one", []int{math.MaxInt, math.MaxInt - 1000}, all(2), math.MaxInt - 1000, math.MaxInt, 1000, 1, 0, spread(1001, 1, 1)},
	{"1001 from the least one", []int{math.MinInt, math.MinInt + 1001}, all(2), math.MinInt, math.MinInt + 1001, 1001, 0, 1, nil},
}

// holds asks each call twice: an answer hangs on what is handed in alone.
func holds(t *testing.T, s sample) {
	t.Helper()
	for range 2 {
		if low, high := wear.Ends(s.counts, s.in); low != s.low || high != s.high {
			t.Errorf("%s: ends %d, %d, not %d, %d", s.name, low, high, s.low, s.high)
		}
		if got := wear.Apart(s.counts, s.in); got != s.apart {
			t.Errorf("%s: apart %d, not %d", s.name, got, s.apart)
		}
		if got := wear.Coldest(s.counts, s.in); got != s.coldest {
			t.Errorf("%s: coldest %d, not %d", s.name, got, s.coldest)
		}
		if got := wear.Hottest(s.counts, s.in); got != s.hottest {
			t.Errorf("%s: hottest %d, not %d", s.name, got, s.hottest)
		}
		if got := wear.Buckets(s.counts, s.in); !slices.Equal(got, s.buckets) {
			t.Errorf("%s: buckets %v, not %v", s.name, got, s.buckets)
		}
		due(t, s)
	}
}

// due: from one below what they are apart, to one above it, and far off on both sides.
func due(t *testing.T, s sample) {
	t.Helper()
	most := []int{math.MinInt, -1 << 32, -1, 0, 1, 2, 1000, 1001, 1 << 32, 1 << 62, math.MaxInt - 1, math.MaxInt, s.apart, s.apart - 1}
	if s.apart < math.MaxInt {
		most = append(most, s.apart+1)
	}
	for _, m := range most {
		want := -1
		if m < s.apart {
			want = s.coldest
		}
		if got := wear.Due(s.counts, s.in, m); got != want {
			t.Errorf("%s: due above %d is %d, not %d", s.name, m, got, want)
		}
	}
}

// P7.1: the chapter's example.
func TestExample(t *testing.T) {
	if got := wear.Due([]int{5, 2, 2}, []bool{true, true, true}, 2); got != 1 {
		t.Errorf("due %d", got)
	}
	if got := wear.Due([]int{5, 2, 2}, []bool{true, true, true}, 3); got != -1 {
		t.Errorf("due %d where they are 3 apart and may be so", got)
	}
}

// P7.1: each call, of ordinary counts, of none, and of those at the edges.
func TestSamples(t *testing.T) {
	for _, s := range samples {
		holds(t, s)
	}
}

// P7.1: all lists of up to four small counts, with each of them looked at or not, one list longer than the other or not.
func TestSmall(t *testing.T) {
	for n := range 5 {
		for which := range power(4, n) {
			for bits := range 1 << (n + 1) {
				counts, in := make([]int, n), make([]bool, n+1)
				for i, rest := 0, which; i < n; i, rest = i+1, rest/4 {
					counts[i] = rest%4 - 1
				}
				for i := range in {
					in[i] = bits>>i&1 == 1
				}
				holds(t, reckon(counts, in))
				holds(t, reckon(counts, in[:n]))
				if n > 0 {
					holds(t, reckon(counts, in[:n-1]))
				}
			}
		}
	}
}

// reckon says in another way, by sorting, what the document asks for.
func reckon(counts []int, in []bool) sample {
	s := sample{name: "small", counts: counts, in: in, coldest: -1, hottest: -1}
	var l []int
	for i, n := range counts {
		if i < len(in) && in[i] {
			l = append(l, n)
		}
	}
	if len(l) == 0 {
		return s
	}
	slices.Sort(l)
	s.low, s.high = l[0], l[len(l)-1]
	s.apart = s.high - s.low
	for i := len(counts) - 1; i >= 0; i-- {
		if i < len(in) && in[i] && counts[i] == s.low {
			s.coldest = i
		}
		if i < len(in) && in[i] && counts[i] == s.high {
			s.hottest = i
		}
	}
	for n := s.low; n <= s.high; n++ {
		end, _ := slices.BinarySearch(l, n+1)
		from, _ := slices.BinarySearch(l, n)
		s.buckets = append(s.buckets, end-from)
	}
	return s
}

func power(n, times int) int {
	p := 1
	for range times {
		p *= n
	}
	return p
}

// P7.1: long lists: the buckets of many blocks are as many as the blocks.
func TestLong(t *testing.T) {
	counts, in, want := make([]int, 20000), make([]bool, 20000), make([]int, 1001)
	for i := range counts {
		counts[i], in[i] = (i*i+7)%1001-400, i%3 != 0
		if in[i] {
			want[counts[i]+400]++
		}
	}
	for want[0] == 0 {
		want = want[1:]
	}
	for want[len(want)-1] == 0 {
		want = want[:len(want)-1]
	}
	if got := wear.Buckets(counts, in); !slices.Equal(got, want) {
		t.Errorf("buckets %v", got)
	}
}

// P7.2: who raises the coldest as long as it is due does so as often as is asked for, and then none is due.
func TestRaise(t *testing.T) {
	starts := []struct {
		counts []int
		in     []bool
	}{
		{[]int{5, 2, 2}, all(3)},
		{[]int{0, 0, 0, 0}, all(4)},
		{[]int{100, 0}, all(2)},
		{[]int{0, 9, 3, 9, 1, 0, 0, 7}, all(8)},
		{[]int{0, 50, 3, 40}, only(4, 0, 2, 3)},
		{[]int{-20, 20, 0}, all(3)},
		{[]int{math.MinInt, math.MinInt + 30}, all(2)},
		{[]int{math.MaxInt, math.MaxInt - 30, math.MaxInt - 7}, all(3)},
		{[]int{7}, all(1)},
		{[]int{7, 800}, only(2, 0)},
		{nil, nil},
		{slices.Repeat([]int{3, 11, 4, 60}, 16), all(64)},
	}
	for _, s := range starts {
		for most := range 60 {
			raise(t, s.counts, s.in, most)
		}
	}
}

func raise(t *testing.T, start []int, in []bool, most int) {
	t.Helper()
	_, high := wear.Ends(start, in)
	counts, want := slices.Clone(start), slices.Clone(start)
	steps := 0
	for i := range want {
		// Nothing is raised further than needed: the lowest that may be beside the greatest one.
		for in[i] && most < high-want[i] {
			want[i]++
			steps++
		}
	}
	for ; steps > 0; steps-- {
		at := wear.Due(counts, in, most)
		if at < 0 || at >= len(counts) || !in[at] || at != wear.Coldest(counts, in) {
			t.Fatalf("%v, most %d: due %d, with %d to go", counts, most, at, steps)
		}
		counts[at]++
	}
	if at := wear.Due(counts, in, most); at != -1 || wear.Apart(counts, in) > most {
		t.Fatalf("%v, most %d: due %d at the end", counts, most, at)
	}
	if !slices.Equal(counts, want) {
		t.Fatalf("%v, most %d: ended at %v, not %v", start, most, counts, want)
	}
}

// R2: what is handed in is left as it is, also behind its length, and what lies there says nothing.
func TestKeepsNothing(t *testing.T) {
	counts := []int{5, 2, 2, -9, 99}
	in := []bool{true, true, true, true, true}
	oldCounts, oldIn := slices.Clone(counts), slices.Clone(in)
	for _, c := range [][]int{counts[:3], counts[:3:3]} {
		for _, l := range [][]bool{in[:3], in[:3:3], in} {
			holds(t, sample{"the example, with room", c, l, 2, 5, 3, 1, 0, []int{2, 0, 0, 1}})
		}
	}
	holds(t, reckon(counts, in[:3]))
	if !slices.Equal(counts, oldCounts) || !slices.Equal(in, oldIn) {
		t.Errorf("changed to %v, %v", counts, in)
	}
}

// R2, R6: an answer is new memory, and hangs on nothing that was asked before.
func TestNewMemory(t *testing.T) {
	counts, in := []int{5, 2, 2}, all(3)
	want := []int{2, 0, 0, 1}
	first := wear.Buckets(counts, in)
	second := wear.Buckets(counts, in)
	for i := range first {
		first[i] = -7
	}
	_ = append(first[:1], 8, 8)
	counts[0], in[1] = 40, false
	if !slices.Equal(second, want) {
		t.Errorf("an earlier answer became %v", second)
	}
	if got := wear.Buckets([]int{5, 2, 2}, all(3)); !slices.Equal(got, want) {
		t.Errorf("a later answer is %v", got)
	}
	if got := wear.Buckets(counts, in); !slices.Equal(got, spread(39, 1, 1)) {
		t.Errorf("of what has changed: %v", got)
	}
}
