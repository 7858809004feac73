package span_test

import (
	"math"
	"math/big"
	"slices"
	"testing"

	"potsherd/api"
	"potsherd/node"
	"potsherd/span"
)

// far are numbers that are no place in a file, and no number of its bytes: sums and differences of two of them go round, or look like small ones where they are cut off at 32 bits.
var far = []int{
	math.MinInt, math.MinInt + 1, math.MinInt + 16, math.MinInt + 80, -1 << 62, -1<<62 - 1, -1<<32 - 16, -1 << 32, -1<<32 + 1, -1 << 31, -256, -81, -80, -17, -16, -2, -1,
	81, 82, 96, 97, 160, 255, 256, 257, 1 << 16, 1<<31 - 1, 1 << 31, 1 << 32, 1<<32 + 1, 1<<32 + 16, 1 << 40, 1 << 62, 1<<62 + 1, math.MaxInt - 81, math.MaxInt - 80, math.MaxInt - 79, math.MaxInt - 16, math.MaxInt - 1, math.MaxInt,
}

// numbers are all that fit, those at their sides, and far ones.
func numbers() []int {
	l := slices.Clone(far)
	for n := -20; n <= 100; n++ {
		l = append(l, n)
	}
	return l
}

// list is pieces: of each three numbers, the page, where in it, and how many bytes.
func list(l ...int) []api.Piece {
	var all []api.Piece
	for x := range slices.Chunk(l, 3) {
		all = append(all, api.Piece{Page: x[0], From: x[1], Len: x[2]})
	}
	return all
}

// fits is what Fits should tell, with numbers that never go round.
func fits(at, n int) bool {
	sum := new(big.Int).Add(big.NewInt(int64(at)), big.NewInt(int64(n)))
	return at >= 0 && n >= 0 && sum.Cmp(big.NewInt(80)) <= 0
}

// cut is what Cut should tell, with numbers that never go round: of the bytes at to at + n - 1, less those from size on.
func cut(size, at, n int) int {
	if at < 0 || n < 0 {
		return 0
	}
	end := new(big.Int).Add(big.NewInt(int64(at)), big.NewInt(int64(n)))
	if s := big.NewInt(int64(size)); s.Cmp(end) < 0 {
		end = s
	}
	end.Sub(end, big.NewInt(int64(at)))
	if end.Sign() < 0 {
		return 0
	}
	return int(end.Int64())
}

// pieces is what Pieces should tell, byte by byte: one that does not go on in the page of the one ahead begins a new piece.
func pieces(at, n int) []api.Piece {
	var l []api.Piece
	if !fits(at, n) {
		return nil
	}
	for i := range n {
		page, from := (at+i)/16, (at+i)%16
		if i == 0 || from == 0 {
			l = append(l, api.Piece{Page: page, From: from})
		}
		l[len(l)-1].Len++
	}
	return l
}

// The chapter's example.
func TestExample(t *testing.T) {
	want := list(0, 14, 2, 1, 0, 2)
	if got := span.Pieces(14, 4); !slices.Equal(got, want) {
		t.Errorf("%v", got)
	}
}

// P16.1: Fits at its bounds, worked out by hand: the least and greatest at and n, and one beyond.
func TestFitsEdges(t *testing.T) {
	for _, x := range []struct {
		at, n int
		want  bool
	}{
		{0, 0, true}, {0, 1, true}, {0, 79, true}, {0, 80, true}, {0, 81, false},
		{1, 79, true}, {1, 80, false}, {40, 40, true}, {40, 41, false}, {41, 40, false},
		{79, 0, true}, {79, 1, true}, {79, 2, false}, {80, 0, true}, {80, 1, false}, {81, 0, false},
		{-1, 0, false}, {0, -1, false}, {-1, -1, false}, {-1, 1, false}, {1, -1, false}, {-1, 80, false}, {80, -1, false}, {81, -1, false}, {-1, 81, false}, {-80, 160, false}, {160, -80, false},
		{math.MaxInt, 1, false}, {1, math.MaxInt, false}, {math.MaxInt, math.MaxInt, false}, {1 << 62, 1 << 62, false}, {math.MinInt, math.MinInt, false}, {math.MaxInt, math.MinInt, false}, {math.MinInt, math.MaxInt, false}, {-1, math.MinInt, false}, {math.MaxInt, 0, false}, {0, math.MaxInt, false}, {0, math.MinInt, false}, {math.MinInt, 0, false}, {math.MinInt, 80, false}, {1 << 32, 0, false}, {0, 1 << 32, false},
	} {
		for range 2 {
			if got := span.Fits(x.at, x.n); got != x.want {
				t.Errorf("Fits(%d, %d): %t", x.at, x.n, got)
			}
		}
	}
}

// P16.1: Fits of all pairs of numbers, far ones too. By hand: with at 0 there are 81 n that fit, with at 80 one.
func TestFits(t *testing.T) {
	many := 0
	for _, at := range numbers() {
		for _, n := range numbers() {
			got := span.Fits(at, n)
			if got != fits(at, n) {
				t.Errorf("Fits(%d, %d): %t", at, n, got)
			}
			if got {
				many++
			}
		}
	}
	if many != 81*82/2 {
		t.Errorf("%d fit", many)
	}
}

// P16.1: Pieces, worked out by hand.
func TestPiecesByHand(t *testing.T) {
	for _, x := range []struct {
		at, n int
		want  []api.Piece
	}{
		{0, 0, nil}, {16, 0, nil}, {15, 0, nil}, {80, 0, nil}, {79, 0, nil},
		{0, 1, list(0, 0, 1)}, {0, 15, list(0, 0, 15)}, {0, 16, list(0, 0, 16)}, {0, 17, list(0, 0, 16, 1, 0, 1)},
		{15, 1, list(0, 15, 1)}, {15, 2, list(0, 15, 1, 1, 0, 1)}, {15, 18, list(0, 15, 1, 1, 0, 16, 2, 0, 1)},
		{1, 15, list(0, 1, 15)}, {1, 16, list(0, 1, 15, 1, 0, 1)}, {16, 16, list(1, 0, 16)}, {20, 5, list(1, 4, 5)}, {31, 34, list(1, 15, 1, 2, 0, 16, 3, 0, 16, 4, 0, 1)},
		{79, 1, list(4, 15, 1)}, {64, 16, list(4, 0, 16)}, {63, 17, list(3, 15, 1, 4, 0, 16)},
		{0, 80, list(0, 0, 16, 1, 0, 16, 2, 0, 16, 3, 0, 16, 4, 0, 16)}, {1, 79, list(0, 1, 15, 1, 0, 16, 2, 0, 16, 3, 0, 16, 4, 0, 16)}, {0, 79, list(0, 0, 16, 1, 0, 16, 2, 0, 16, 3, 0, 16, 4, 0, 15)},
		// What does not fit has none, also where some of its bytes would be in the file.
		{0, 81, nil}, {1, 80, nil}, {79, 2, nil}, {80, 1, nil}, {81, 0, nil}, {-1, 1, nil}, {-1, 2, nil}, {-16, 32, nil}, {5, -1, nil}, {-1, 81, nil}, {90, -20, nil}, {math.MaxInt, 1, nil}, {1, math.MaxInt, nil}, {math.MaxInt, math.MaxInt, nil}, {math.MinInt, math.MinInt, nil}, {0, 1<<32 + 1, nil}, {1 << 32, 1, nil},
	} {
		if got := span.Pieces(x.at, x.n); !slices.Equal(got, x.want) {
			t.Errorf("Pieces(%d, %d): %v, not %v", x.at, x.n, got, x.want)
		}
	}
}

// P16.1: Pieces of all pairs of numbers, far ones too, byte by byte; nothing just where it does not fit, or has no bytes.
func TestPieces(t *testing.T) {
	for _, at := range numbers() {
		for _, n := range numbers() {
			got := span.Pieces(at, n)
			if want := pieces(at, n); !slices.Equal(got, want) {
				t.Errorf("Pieces(%d, %d): %v, not %v", at, n, got, want)
			}
			if some := span.Fits(at, n) && n > 0; some != (len(got) > 0) {
				t.Errorf("Pieces(%d, %d): %v", at, n, got)
			}
		}
	}
}

// P16.1, P16.2: none is empty, each is within its page, in order; they are side by side, from at on, and have n bytes together.
func TestSideBySide(t *testing.T) {
	for at := range 81 {
		for n := range 81 - at {
			next, sum, page := at, 0, -1
			for _, p := range span.Pieces(at, n) {
				if p.Len < 1 || p.From < 0 || p.From+p.Len > 16 || p.Page < 0 || p.Page > 4 || p.Page <= page {
					t.Errorf("Pieces(%d, %d): %v", at, n, p)
				}
				if p.Page*16+p.From != next {
					t.Errorf("Pieces(%d, %d): %v is not at %d", at, n, p, next)
				}
				next, sum, page = next+p.Len, sum+p.Len, p.Page
			}
			if sum != n || next != at+n {
				t.Errorf("Pieces(%d, %d): %d bytes, up to %d", at, n, sum, next)
			}
		}
	}
}

// P16.2: what is cut anywhere in two has the same bytes, one behind the other.
func TestTwoParts(t *testing.T) {
	for at := range 81 {
		for n := range 81 - at {
			whole := places(span.Pieces(at, n))
			for part := range n + 1 {
				if got := append(places(span.Pieces(at, part)), places(span.Pieces(at+part, n-part))...); !slices.Equal(got, whole) {
					t.Errorf("%d bytes and %d from %d on: %v", part, n-part, at, got)
				}
			}
		}
	}
}

// places tells where in the file each byte of pieces is.
func places(l []api.Piece) []int {
	var all []int
	for _, p := range l {
		for i := range p.Len {
			all = append(all, p.Page*16+p.From+i)
		}
	}
	return all
}

// P16.1: Pages, worked out by hand: each bound from both sides.
func TestPagesByHand(t *testing.T) {
	for size, want := range map[int]int{
		math.MinInt: 0, math.MinInt + 15: 0, -1 << 32: 0, -1<<32 + 1: 0, -80: 0, -17: 0, -16: 0, -15: 0, -2: 0, -1: 0,
		0: 0, 1: 1, 2: 1, 15: 1, 16: 1, 17: 2, 31: 2, 32: 2, 33: 3, 47: 3, 48: 3, 49: 4, 63: 4, 64: 4, 65: 5, 79: 5, 80: 5,
		81: 5, 95: 5, 96: 5, 97: 5, 256: 5, 1<<32 - 16: 5, 1 << 32: 5, 1<<32 + 1: 5, 1 << 62: 5, math.MaxInt - 16: 5, math.MaxInt - 15: 5, math.MaxInt - 14: 5, math.MaxInt - 1: 5, math.MaxInt: 5,
	} {
		if got := span.Pages(size); got != want {
			t.Errorf("Pages(%d): %d, not %d", size, got, want)
		}
	}
}

// P16.1: Pages of all sizes, far ones too: as many as begin below the size.
func TestPages(t *testing.T) {
	for _, size := range numbers() {
		want := 0
		for _, first := range []int{0, 16, 32, 48, 64} {
			if first < size {
				want++
			}
		}
		if got := span.Pages(size); got != want {
			t.Errorf("Pages(%d): %d, not %d", size, got, want)
		}
		// And as many as the file's bytes have pieces, where there are so many.
		if got := len(span.Pieces(0, size)); size >= 0 && size <= 80 && got != want {
			t.Errorf("Pieces(0, %d): %d", size, got)
		}
	}
}

// P16.1: of each size just that many pages may a file have, by chapter 14.
func TestPagesOfAFile(t *testing.T) {
	for size := range 81 {
		pages := 0
		for p := range 5 {
			n := node.Empty(api.KFile)
			n.Size, n.Seqs[p] = size, 1
			if node.May(n) {
				pages++
			}
		}
		if got := span.Pages(size); got != pages {
			t.Errorf("Pages(%d): %d, not %d", size, got, pages)
		}
	}
}

// P16.1: Cut, worked out by hand.
func TestCutByHand(t *testing.T) {
	for _, x := range []struct{ size, at, n, want int }{
		{0, 0, 0, 0}, {0, 0, 1, 0}, {1, 0, 0, 0}, {1, 0, 1, 1}, {1, 0, 2, 1}, {1, 1, 1, 0}, {1, 2, 1, 0},
		{10, 0, 9, 9}, {10, 0, 10, 10}, {10, 0, 11, 10}, {10, 4, 5, 5}, {10, 4, 6, 6}, {10, 4, 7, 6}, {10, 9, 1, 1}, {10, 9, 2, 1}, {10, 9, 0, 0}, {10, 10, 1, 0}, {10, 10, 0, 0}, {10, 11, 3, 0},
		{80, 0, 80, 80}, {80, 0, 81, 80}, {80, 79, 5, 1}, {80, 80, 5, 0}, {80, 81, 5, 0},
		// at or n is below 0: none, also where some of the bytes would be there.
		{10, -1, 5, 0}, {10, -1, 0, 0}, {10, 5, -1, 0}, {10, 0, -1, 0}, {10, -1, -1, 0}, {10, -5, 20, 0}, {10, 20, -15, 0}, {10, math.MinInt, 5, 0}, {10, 5, math.MinInt, 0}, {10, math.MinInt, math.MaxInt, 0},
		// Nothing is below a size that is below 0.
		{-1, 0, 5, 0}, {-5, 0, 5, 0}, {-1, 0, 0, 0}, {math.MinInt, 0, 5, 0}, {math.MinInt, 1, 5, 0}, {math.MinInt, math.MaxInt, math.MaxInt, 0}, {-2, math.MaxInt, 5, 0}, {math.MinInt + 5, 10, 5, 0},
		// The greatest file is no bound here; and no sum goes round.
		{81, 80, 1, 1}, {100, 0, 100, 100}, {100, 0, 101, 100}, {100, 90, 20, 10}, {1 << 32, 0, 1 << 33, 1 << 32}, {1<<32 + 5, 1 << 32, 9, 5}, {math.MaxInt, 0, math.MaxInt, math.MaxInt}, {math.MaxInt, 1, math.MaxInt, math.MaxInt - 1}, {math.MaxInt, math.MaxInt - 1, math.MaxInt, 1}, {math.MaxInt, math.MaxInt, math.MaxInt, 0}, {10, 5, math.MaxInt, 5}, {10, 0, math.MaxInt, 10}, {10, math.MaxInt, math.MaxInt, 0}, {10, math.MaxInt, 1, 0}, {math.MaxInt, 5, 7, 7},
	} {
		for range 2 {
			if got := span.Cut(x.size, x.at, x.n); got != x.want {
				t.Errorf("Cut(%d, %d, %d): %d, not %d", x.size, x.at, x.n, got, x.want)
			}
		}
	}
}

// P16.1: Cut of all small numbers, counted byte by byte.
func TestCutCounted(t *testing.T) {
	for size := -20; size <= 100; size++ {
		for at := -20; at <= 100; at++ {
			want := 0
			for n := -20; n <= 100; n++ {
				if at >= 0 && n > 0 && at+n-1 < size {
					want++
				}
				if got := span.Cut(size, at, n); got != want {
					t.Errorf("Cut(%d, %d, %d): %d, not %d", size, at, n, got, want)
				}
			}
		}
	}
}

// P16.1: Cut of all far numbers, and of some that are not, with numbers that never go round.
func TestCutFar(t *testing.T) {
	l := append([]int{0, 1, 15, 16, 17, 79, 80}, far...)
	for _, size := range l {
		for _, at := range l {
			for _, n := range l {
				if got, want := span.Cut(size, at, n), cut(size, at, n); got != want {
					t.Errorf("Cut(%d, %d, %d): %d, not %d", size, at, n, got, want)
				}
			}
		}
	}
}

// P16.1: what is cut to a file's size fits, unless it begins behind the greatest file, where nothing is left of it; and what is cut is cut no more.
func TestCutFits(t *testing.T) {
	for size := range 81 {
		for _, at := range numbers() {
			for _, n := range numbers() {
				got := span.Cut(size, at, n)
				if at >= 0 && !span.Fits(at, got) && got != 0 {
					t.Errorf("Cut(%d, %d, %d): %d", size, at, n, got)
				}
				if span.Cut(size, at, got) != got {
					t.Errorf("Cut(%d, %d, %d): %d, and less of that", size, at, n, got)
				}
			}
		}
	}
}

// R2, R6: what is told is the caller's own: what one does with it, also behind its end, is not to be seen in another answer.
func TestNewMemory(t *testing.T) {
	for at := range 81 {
		for n := range 81 - at {
			want := pieces(at, n)
			a, b := span.Pieces(at, n), span.Pieces(at, n)
			a = a[:cap(a)]
			for i := range a {
				a[i] = api.Piece{Page: 77, From: 77, Len: 77}
			}
			if c := span.Pieces(at, n); !slices.Equal(b, want) || !slices.Equal(c, want) {
				t.Errorf("Pieces(%d, %d): %v, then %v, not %v", at, n, b, c, want)
			}
		}
	}
}
