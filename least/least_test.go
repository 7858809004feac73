package least_test

import (
	"cmp"
	"math"
	"slices"
	"testing"

	"potsherd/least"
)

const most = 1 << 40

type added[K cmp.Ordered] struct {
	k K
	n int
}

type told[K cmp.Ordered] struct {
	k  K
	n  int
	ok bool
}

func tally[K cmp.Ordered](l ...added[K]) *least.Tally[K] {
	t := least.New[K]()
	for _, x := range l {
		t.Add(x.k, x.n)
	}
	return t
}

func leastOf[K cmp.Ordered](t *least.Tally[K]) told[K] {
	k, n, ok := t.Least()
	return told[K]{k, n, ok}
}

func mostOf[K cmp.Ordered](t *least.Tally[K]) told[K] {
	k, n, ok := t.Most()
	return told[K]{k, n, ok}
}

// P2.1, Add: what is told, and what Of tells behind it, held from below and from above at each step.
func TestAdd(t *testing.T) {
	for name, steps := range map[string][]struct{ n, want int }{
		"first":             {{1, 1}},
		"more":              {{1, 1}, {2, 3}, {40, 43}},
		"less":              {{5, 5}, {-2, 3}, {-3, 0}},
		"nothing":           {{0, 0}, {4, 4}, {0, 4}},
		"below":             {{-1, 0}, {3, 3}, {-4, 0}, {2, 2}},
		"to the bound":      {{most, most}, {0, most}},
		"one below it":      {{most - 1, most - 1}, {1, most}},
		"one above it":      {{most + 1, most}},
		"over the bound":    {{most - 1, most - 1}, {2, most}, {1, most}, {-1, most - 1}},
		"down from it":      {{most, most}, {-most, 0}},
		"below from it":     {{most, most}, {-most - 1, 0}, {1, 1}},
		"greatest int":      {{math.MaxInt, most}, {math.MaxInt, most}},
		"1, greatest int":   {{1, 1}, {math.MaxInt, most}},
		"lowest int":        {{math.MinInt, 0}, {math.MinInt, 0}, {7, 7}},
		"1, lowest int":     {{1, 1}, {math.MinInt, 0}},
		"bound, lowest int": {{most, most}, {math.MinInt, 0}},
		"all the way":       {{math.MaxInt, most}, {math.MinInt, 0}, {math.MaxInt, most}},
	} {
		a := least.New[int]()
		for i, x := range steps {
			if got := a.Add(9, x.n); got != x.want {
				t.Errorf("%s, %d: Add tells %d, not %d", name, i, got, x.want)
			}
			if got := a.Of(9); got != x.want {
				t.Errorf("%s, %d: Of tells %d, not %d", name, i, got, x.want)
			}
		}
	}
}

// P2.1, Add, Of: each key has a count of its own, and two tallies have nothing to do with each other.
func TestEachKeyAlone(t *testing.T) {
	a, b := least.New[int](), least.New[int]()
	a.Add(3, 5)
	a.Add(-3, 2)
	b.Add(3, 1)
	for _, x := range []struct{ got, want int }{
		{a.Of(3), 5}, {a.Of(-3), 2}, {a.Of(0), 0}, {b.Of(3), 1}, {b.Of(-3), 0},
	} {
		if x.got != x.want {
			t.Errorf("%d, not %d", x.got, x.want)
		}
	}
}

// P2.1, Of: who asks does not add.
func TestOfAddsNothing(t *testing.T) {
	a := tally(added[int]{4, 1})
	a.Of(7)
	a.Add(8, 0)
	a.Add(9, -2)
	if got := a.Keys(); !slices.Equal(got, []int{4}) {
		t.Errorf("%v", got)
	}
}

// P2.1, New, Keys, Least, Most: no keys at all.
func TestNothing(t *testing.T) {
	gone := tally(added[int]{5, 3}, added[int]{6, 1}, added[int]{5, -3}, added[int]{6, -9})
	for name, a := range map[string]*least.Tally[int]{
		"New": least.New[int](), "none above 0": gone, "made without New": {},
	} {
		if got := a.Keys(); len(got) != 0 {
			t.Errorf("%s: keys %v", name, got)
		}
		if got := leastOf(a); got != (told[int]{}) {
			t.Errorf("%s: Least %v", name, got)
		}
		if got := mostOf(a); got != (told[int]{}) {
			t.Errorf("%s: Most %v", name, got)
		}
		if got := a.Of(5); got != 0 {
			t.Errorf("%s: Of %d", name, got)
		}
	}
}

// P2.1, Keys, Least, Most: rising; of two with the same count the lower one.
func TestNumbers(t *testing.T) {
	for name, x := range map[string]struct {
		l           []added[int]
		keys        []int
		least, most told[int]
	}{
		"one":             {[]added[int]{{7, 2}}, []int{7}, told[int]{7, 2, true}, told[int]{7, 2, true}},
		"key 0":           {[]added[int]{{0, 1}}, []int{0}, told[int]{0, 1, true}, told[int]{0, 1, true}},
		"two":             {[]added[int]{{2, 1}, {1, 2}}, []int{1, 2}, told[int]{2, 1, true}, told[int]{1, 2, true}},
		"two alike":       {[]added[int]{{2, 4}, {1, 4}}, []int{1, 2}, told[int]{1, 4, true}, told[int]{1, 4, true}},
		"below 0":         {[]added[int]{{0, 1}, {-5, 1}, {5, 1}}, []int{-5, 0, 5}, told[int]{-5, 1, true}, told[int]{-5, 1, true}},
		"least alike":     {[]added[int]{{9, 1}, {3, 2}, {4, 1}, {6, 1}}, []int{3, 4, 6, 9}, told[int]{4, 1, true}, told[int]{3, 2, true}},
		"most alike":      {[]added[int]{{9, 2}, {3, 1}, {4, 2}, {6, 2}}, []int{3, 4, 6, 9}, told[int]{3, 1, true}, told[int]{4, 2, true}},
		"back to 0":       {[]added[int]{{1, 1}, {2, 5}, {3, 7}, {1, -1}, {3, -8}}, []int{2}, told[int]{2, 5, true}, told[int]{2, 5, true}},
		"there once more": {[]added[int]{{1, 1}, {2, 5}, {1, -1}, {1, 2}}, []int{1, 2}, told[int]{1, 2, true}, told[int]{2, 5, true}},
		"held":            {[]added[int]{{5, math.MaxInt}, {4, most}, {6, most - 1}}, []int{4, 5, 6}, told[int]{6, most - 1, true}, told[int]{4, most, true}},
		"far apart": {[]added[int]{{math.MaxInt, 1}, {math.MinInt, 1}, {0, 1}}, []int{math.MinInt, 0, math.MaxInt},
			told[int]{math.MinInt, 1, true}, told[int]{math.MinInt, 1, true}},
	} {
		a := tally(x.l...)
		if got := a.Keys(); !slices.Equal(got, x.keys) {
			t.Errorf("%s: keys %v, not %v", name, got, x.keys)
		}
		if got := leastOf(a); got != x.least {
			t.Errorf("%s: Least %v, not %v", name, got, x.least)
		}
		if got := mostOf(a); got != x.most {
			t.Errorf("%s: Most %v, not %v", name, got, x.most)
		}
	}
}

// P2.1: texts are keys as well, ordered byte by byte (R5).
func TestTexts(t *testing.T) {
	a := tally(added[string]{"b", 2}, added[string]{"a", 1})
	if got := leastOf(a); got != (told[string]{"a", 1, true}) {
		t.Errorf("Least %v", got)
	}
	if got := mostOf(a); got != (told[string]{"b", 2, true}) {
		t.Errorf("Most %v", got)
	}
	rising := []string{"", "Z", "a", "a\x00", "aa", "b", "\x7f", "é", "\xff"}
	b := least.New[string]()
	for _, k := range slices.Backward(rising) {
		b.Add(k, 3)
	}
	if got := b.Keys(); !slices.Equal(got, rising) {
		t.Errorf("keys %q", got)
	}
	if got := leastOf(b); got != (told[string]{"", 3, true}) {
		t.Errorf("Least %q", got.k)
	}
	if got := mostOf(b); got != (told[string]{"", 3, true}) {
		t.Errorf("Most %q", got.k)
	}
	b.Add("", -3)
	if got := leastOf(b); got != (told[string]{"Z", 3, true}) {
		t.Errorf("Least %q", got.k)
	}
}

type small uint8

// P2.1: other keys that have an order, a type of one's own among them.
func TestOtherKeys(t *testing.T) {
	a := tally(added[small]{255, 1}, added[small]{128, 1}, added[small]{0, 4})
	if got := a.Keys(); !slices.Equal(got, []small{0, 128, 255}) {
		t.Errorf("keys %v", got)
	}
	if got := leastOf(a); got != (told[small]{128, 1, true}) {
		t.Errorf("Least %v", got)
	}
	b := tally(added[float64]{0.5, 2}, added[float64]{math.Inf(-1), 2}, added[float64]{math.Copysign(0, -1), 1}, added[float64]{0, 1})
	if got := b.Keys(); !slices.Equal(got, []float64{math.Inf(-1), 0, 0.5}) {
		t.Errorf("keys %v", got)
	}
	if got := mostOf(b); got != (told[float64]{math.Inf(-1), 2, true}) {
		t.Errorf("Most %v", got)
	}
}

// P2.1: a float that is no number is one key like others, ahead of all.
func TestNoNumber(t *testing.T) {
	nan := math.NaN()
	a := tally(added[float64]{nan, 2}, added[float64]{1, 3}, added[float64]{math.Inf(-1), 3})
	if got := a.Add(nan, 1); got != 3 || a.Of(nan) != 3 {
		t.Errorf("%d, %d", got, a.Of(nan))
	}
	keys := a.Keys()
	if len(keys) != 3 || keys[0] == keys[0] || keys[1] != math.Inf(-1) || keys[2] != 1 {
		t.Errorf("keys %v", keys)
	}
	if got := leastOf(a); got.k == got.k || got.n != 3 || !got.ok {
		t.Errorf("Least %v", got)
	}
	if got := mostOf(a); got.k == got.k || got.n != 3 || !got.ok {
		t.Errorf("Most %v", got)
	}
	a.Add(nan, -3)
	if got := a.Keys(); !slices.Equal(got, []float64{math.Inf(-1), 1}) || a.Of(nan) != 0 {
		t.Errorf("keys %v", got)
	}
	if got := leastOf(a); got != (told[float64]{math.Inf(-1), 3, true}) {
		t.Errorf("Least %v", got)
	}
}

// R2: Keys tells new memory each time.
func TestKeysAreNew(t *testing.T) {
	a := tally(added[int]{1, 1}, added[int]{2, 1})
	b := a.Keys()
	b[0], b[1] = 99, 98
	if got := a.Keys(); !slices.Equal(got, []int{1, 2}) {
		t.Errorf("the same memory: %v", got)
	}
}

// P2.1: a nil tally tells zero values, of all calls, and no panic (R3).
func TestNilTally(t *testing.T) {
	var a *least.Tally[int]
	var b *least.Tally[string]
	if got := a.Add(1, 5); got != 0 {
		t.Errorf("Add %d", got)
	}
	if got := b.Add("a", math.MaxInt); got != 0 {
		t.Errorf("Add %d", got)
	}
	if a.Of(1) != 0 || b.Of("a") != 0 {
		t.Errorf("Of %d, %d", a.Of(1), b.Of("a"))
	}
	if len(a.Keys()) != 0 || len(b.Keys()) != 0 {
		t.Errorf("Keys %v, %v", a.Keys(), b.Keys())
	}
	if leastOf(a) != (told[int]{}) || leastOf(b) != (told[string]{}) {
		t.Errorf("Least %v, %v", leastOf(a), leastOf(b))
	}
	if mostOf(a) != (told[int]{}) || mostOf(b) != (told[string]{}) {
		t.Errorf("Most %v, %v", mostOf(a), mostOf(b))
	}
}

// R3: a tally that was made without New is one of nothing.
func TestMadeWithoutNew(t *testing.T) {
	var a least.Tally[string]
	if a.Add("a", 2) != 2 || a.Of("a") != 2 || a.Of("b") != 0 {
		t.Errorf("%d, %d", a.Of("a"), a.Of("b"))
	}
	if got := leastOf(&a); got != (told[string]{"a", 2, true}) {
		t.Errorf("Least %v", got)
	}
}

// P2.2: the place, the first of several, -1 of none.
func TestLowHigh(t *testing.T) {
	for _, x := range []struct {
		l         []int
		low, high int
	}{
		{nil, -1, -1},
		{[]int{}, -1, -1},
		{[]int{0}, 0, 0},
		{[]int{-3}, 0, 0},
		{[]int{1, 2, 3}, 0, 2},
		{[]int{3, 2, 1}, 2, 0},
		{[]int{2, 1, 3, 2}, 1, 2},
		{[]int{-1, -2}, 1, 0},
		{[]int{4, 4, 4}, 0, 0},
		{[]int{5, 1, 9, 1, 9, 1}, 1, 2},
		{[]int{9, 1, 1, 9}, 1, 0},
		{[]int{0, math.MaxInt, math.MinInt, math.MaxInt, math.MinInt}, 2, 1},
	} {
		kept := slices.Clone(x.l)
		if got := least.Low(x.l); got != x.low {
			t.Errorf("Low(%v): %d, not %d", x.l, got, x.low)
		}
		if got := least.High(x.l); got != x.high {
			t.Errorf("High(%v): %d, not %d", x.l, got, x.high)
		}
		if !slices.Equal(x.l, kept) {
			t.Errorf("changed: %v", x.l)
		}
	}
}

// P2.2: texts, floats; what lies behind the length is not looked at (R2).
func TestLowHighOthers(t *testing.T) {
	texts := []string{"b", "", "ba", "\xff", "", "\xff"}
	if low, high := least.Low(texts), least.High(texts); low != 1 || high != 3 {
		t.Errorf("texts: %d, %d", low, high)
	}
	if low, high := least.Low([]string{}), least.High([]string{}); low != -1 || high != -1 {
		t.Errorf("no texts: %d, %d", low, high)
	}
	if low, high := least.Low([]string{"", ""}), least.High([]string{"", ""}); low != 0 || high != 0 {
		t.Errorf("empty texts: %d, %d", low, high)
	}
	floats := []float64{1, math.NaN(), math.Inf(-1), math.NaN(), 1}
	if low, high := least.Low(floats), least.High(floats); low != 1 || high != 0 {
		t.Errorf("floats: %d, %d", low, high)
	}
	floats = []float64{math.NaN(), math.NaN(), math.Inf(-1), math.Inf(-1)}
	if low, high := least.Low(floats), least.High(floats); low != 0 || high != 2 {
		t.Errorf("no number ahead: %d, %d", low, high)
	}
	whole := []int{5, 6, 1, 9}
	if low, high := least.Low(whole[:2]), least.High(whole[:2]); low != 0 || high != 1 {
		t.Errorf("behind the length: %d, %d", low, high)
	}
	if low, high := least.Low(whole[:0]), least.High(whole[:0]); low != -1 || high != -1 {
		t.Errorf("behind no length: %d, %d", low, high)
	}
}

// orders calls f with l in each order.
func orders[T any](l []T, n int, f func([]T)) {
	if n == len(l) {
		f(l)
		return
	}
	for i := n; i < len(l); i++ {
		l[n], l[i] = l[i], l[n]
		orders(l, n+1, f)
		l[n], l[i] = l[i], l[n]
	}
}

// same holds what a tells against want, of keys that are there, and of one that is not.
func same[K cmp.Ordered](t *testing.T, a, want *least.Tally[K], lacks K) {
	t.Helper()
	if !slices.Equal(a.Keys(), want.Keys()) || leastOf(a) != leastOf(want) || mostOf(a) != mostOf(want) {
		t.Fatalf("%v, %v, %v, not %v, %v, %v", a.Keys(), leastOf(a), mostOf(a), want.Keys(), leastOf(want), mostOf(want))
	}
	for _, k := range append(want.Keys(), lacks) {
		if a.Of(k) != want.Of(k) {
			t.Fatalf("%v: %d, not %d", k, a.Of(k), want.Of(k))
		}
	}
}

// P2.3: each order of the same additions gives the same counts, numbers and texts.
func TestAnyOrder(t *testing.T) {
	l := []added[int]{{5, 1}, {2, 3}, {5, 2}, {-1, 3}, {2, 0}, {7, most - 4}, {7, 4}}
	want := tally(l...)
	if !slices.Equal(want.Keys(), []int{-1, 2, 5, 7}) || want.Of(5) != 3 || want.Of(7) != most {
		t.Fatalf("keys %v", want.Keys())
	}
	orders(l, 0, func(l []added[int]) { same(t, tally(l...), want, 6) })
	texts := []added[string]{{"b", 1}, {"a", 2}, {"b", 1}, {"", 2}, {"c", 9}}
	orders(texts, 0, func(l []added[string]) { same(t, tally(l...), tally(texts...), "d") })
}

// P2.3: what is taken away counts, too, as long as no order holds it at 0.
func TestAnyOrderTakenAway(t *testing.T) {
	l := []added[int]{{1, -1}, {2, -3}, {3, -4}, {1, 2}, {2, -1}, {3, 5}}
	whole := func(l []added[int]) *least.Tally[int] {
		return tally(append([]added[int]{{1, 4}, {2, 4}, {3, 4}}, l...)...)
	}
	want := whole(l)
	if !slices.Equal(want.Keys(), []int{1, 3}) || want.Of(1) != 5 || want.Of(3) != 5 {
		t.Fatalf("keys %v", want.Keys())
	}
	orders(l, 0, func(l []added[int]) { same(t, whole(l), want, 2) })
}

// P2.3 holds no more where a count is held: then the order is to be seen.
func TestHeldOrder(t *testing.T) {
	up, down := tally(added[int]{1, 2}, added[int]{1, -5}), tally(added[int]{1, -5}, added[int]{1, 2})
	if up.Of(1) != 0 || down.Of(1) != 2 {
		t.Errorf("held at 0: %d, %d", up.Of(1), down.Of(1))
	}
	up, down = tally(added[int]{1, most}, added[int]{1, 5}, added[int]{1, -5}), tally(added[int]{1, most}, added[int]{1, -5}, added[int]{1, 5})
	if up.Of(1) != most-5 || down.Of(1) != most {
		t.Errorf("held at 2^40: %d, %d", up.Of(1), down.Of(1))
	}
}

// R6: however a map is gone through, the answers are the same.
func TestManyKeys(t *testing.T) {
	want := make([]int, 1000)
	a := least.New[int]()
	for i := range want {
		want[i] = i
		a.Add(i*7%1000, 3)
	}
	for range 5 {
		if !slices.Equal(a.Keys(), want) {
			t.Fatal("keys")
		}
		if leastOf(a) != (told[int]{0, 3, true}) || mostOf(a) != (told[int]{0, 3, true}) {
			t.Fatalf("%v, %v", leastOf(a), mostOf(a))
		}
	}
}
