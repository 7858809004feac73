package plan_test

import (
	"math"
	"testing"

	"potsherd/api"
	"potsherd/plan"
)

// bound is a number of a config, how small and how great it may be.
type bound struct {
	name        string
	least, most int
	of          func(*api.Config) *int
}

var bounds = []bound{
	{"blocks", 3, 64, func(c *api.Config) *int { return &c.Blocks }},
	{"pages", 2, 32, func(c *api.Config) *int { return &c.Pages }},
	{"spare", 0, 6, func(c *api.Config) *int { return &c.Spare }},
	{"data", 1, 60, func(c *api.Config) *int { return &c.Data }},
	{"wear", 2, 50, func(c *api.Config) *int { return &c.Wear }},
}

// far are numbers that no number of a config, and no count of bad blocks, may be.
var far = []int{
	math.MinInt, math.MinInt + 1, math.MinInt + 7, -1 << 62, -1<<32 - 1, -1 << 32, -1 << 31, -64, -7, -2, -1,
	65, 66, 128, 255, 256, 1 << 16, 1<<31 - 1, 1 << 31, 1 << 32, 1<<32 + 3, 1 << 40, 1 << 62, math.MaxInt - 1, math.MaxInt,
}

func of(blocks, pages, spare, data, wear int) api.Config {
	return api.Config{Blocks: blocks, Pages: pages, Spare: spare, Data: data, Wear: wear}
}

// bases are configs that may be: of the chapter's example, the least one, the greatest one, and one between.
func bases() []api.Config {
	return []api.Config{of(6, 8, 1, 10, 2), of(3, 2, 0, 1, 2), of(64, 32, 6, 60, 50), of(20, 5, 3, 30, 9)}
}

// sizes does f for each config of these data and wear that may be.
func sizes(data, wear int, f func(api.Config)) {
	for blocks := 3; blocks <= 64; blocks++ {
		for pages := 2; pages <= 32; pages++ {
			for spare := range 7 {
				f(of(blocks, pages, spare, data, wear))
			}
		}
	}
}

// none: of a config that may not be all is zero, whatever bad is.
func none(t *testing.T, c api.Config) {
	t.Helper()
	if plan.May(c) {
		t.Errorf("%v: may be", c)
	}
	if got := plan.Need(c); got != 0 {
		t.Errorf("%v: need %d", c, got)
	}
	for _, bad := range append([]int{0, 1, 2, 3, 6, 7, 63, 64, c.Blocks, c.Spare}, far...) {
		if r, fits, f := plan.Room(c, bad), plan.Fits(c, bad), plan.Floor(c, bad); r != 0 || fits || f != 0 {
			t.Errorf("%v, %d bad: room %d, fits %t, floor %d", c, bad, r, fits, f)
		}
	}
}

// some: of a config that may be Need is told, and Floor of no bad block, neither of them 0.
func some(t *testing.T, c api.Config) {
	t.Helper()
	if !plan.May(c) {
		t.Errorf("%v: may not be", c)
	}
	if n, f := plan.Need(c), plan.Floor(c, 0); n != c.Data+8 || f != c.Spare+1 {
		t.Errorf("%v: need %d, floor %d", c, n, f)
	}
}

// P6.1: the chapter's example.
func TestExample(t *testing.T) {
	c := of(6, 8, 1, 10, 2)
	if need, room := plan.Need(c), plan.Room(c, 0); need != 18 || room != 32 {
		t.Errorf("need %d, room %d", need, room)
	}
}

// P6.1: each number of a config has its bounds, whatever the others are.
func TestMay(t *testing.T) {
	for _, base := range bases() {
		for _, b := range bounds {
			for n := b.least - 70; n <= b.most+70; n++ {
				c := base
				*b.of(&c) = n
				if n < b.least || n > b.most {
					none(t, c)
				} else {
					some(t, c)
				}
			}
			for _, n := range far {
				c := base
				*b.of(&c) = n
				none(t, c)
			}
		}
	}
}

// P6.1: all numbers at their bounds, and one beyond, in all ways.
func TestMayEdges(t *testing.T) {
	var pick func(at int, c api.Config, is bool)
	pick = func(at int, c api.Config, is bool) {
		if at == len(bounds) {
			if is {
				some(t, c)
			} else {
				none(t, c)
			}
			return
		}
		b := bounds[at]
		for _, n := range []int{b.least - 1, b.least, b.most, b.most + 1} {
			*b.of(&c) = n
			pick(at+1, c, is && n >= b.least && n <= b.most)
		}
	}
	pick(0, api.Config{}, true)
	none(t, api.Config{})
}

// P6.1: Need hangs on the data alone.
func TestNeed(t *testing.T) {
	for data, want := range map[int]int{1: 9, 2: 10, 10: 18, 59: 67, 60: 68} {
		sizes(data, 2+data%49, func(c api.Config) {
			if got := plan.Need(c); got != want {
				t.Errorf("%v: %d, not %d", c, got, want)
			}
		})
	}
}

// P6.1: what room there is, and whether it is enough, in some cases that were worked out by hand.
func TestRoom(t *testing.T) {
	for _, x := range []struct {
		c         api.Config
		bad, room int
		fits      bool
	}{
		{of(6, 8, 1, 10, 2), 0, 32, true},
		{of(6, 8, 1, 10, 2), 1, 24, true},
		{of(6, 8, 1, 10, 2), 2, 16, false},
		{of(6, 8, 1, 10, 2), 3, 8, false},
		{of(6, 8, 1, 10, 2), 4, 0, false},
		{of(6, 8, 1, 10, 2), 5, 0, false},
		{of(6, 8, 1, 10, 2), 6, 0, false},
		{of(6, 8, 1, 10, 2), 7, 0, false},
		{of(6, 8, 1, 10, 2), -1, 0, false},
		{of(6, 8, 1, 8, 2), 2, 16, true},
		{of(6, 8, 1, 9, 2), 2, 16, false},
		{of(6, 9, 1, 10, 2), 2, 18, true},
		{of(6, 9, 1, 11, 2), 2, 18, false},
		{of(6, 17, 1, 10, 2), 3, 17, false},
		{of(6, 18, 1, 10, 2), 3, 18, true},
		{of(3, 2, 0, 1, 2), 0, 4, false},
		{of(3, 4, 0, 1, 2), 0, 8, false},
		{of(3, 5, 0, 1, 2), 0, 10, true},
		{of(3, 5, 0, 2, 2), 0, 10, true},
		{of(3, 5, 0, 3, 2), 0, 10, false},
		{of(3, 32, 0, 60, 50), 0, 64, false},
		{of(3, 32, 0, 56, 50), 0, 64, true},
		{of(3, 32, 0, 57, 50), 0, 64, false},
		{of(3, 32, 0, 1, 2), 1, 32, true},
		{of(3, 32, 0, 1, 2), 2, 0, false},
		{of(3, 32, 0, 1, 2), 3, 0, false},
		{of(3, 32, 1, 1, 2), 0, 32, true},
		{of(3, 32, 2, 1, 2), 0, 0, false},
		{of(3, 32, 6, 1, 2), 0, 0, false},
		{of(3, 32, 6, 1, 2), 3, 0, false},
		{of(64, 32, 0, 60, 50), 0, 2016, true},
		{of(64, 32, 6, 60, 50), 0, 1824, true},
		{of(64, 32, 6, 60, 50), 54, 96, true},
		{of(64, 32, 6, 60, 50), 55, 64, false},
		{of(64, 32, 6, 60, 50), 57, 0, false},
		{of(64, 32, 6, 60, 50), 58, 0, false},
		{of(64, 32, 6, 60, 50), 64, 0, false},
		{of(64, 32, 6, 60, 50), 65, 0, false},
		{of(64, 2, 6, 60, 50), 23, 68, true},
		{of(64, 2, 6, 60, 50), 24, 66, false},
	} {
		for range 2 {
			if room, fits := plan.Room(x.c, x.bad), plan.Fits(x.c, x.bad); room != x.room || fits != x.fits {
				t.Errorf("%v, %d bad: room %d, fits %t", x.c, x.bad, room, fits)
			}
		}
	}
}

// P6.1: what room there is in all chips: the pages of the blocks that are left, one by one.
func TestRoomAll(t *testing.T) {
	sizes(10, 2, func(c api.Config) {
		for bad := range c.Blocks + 1 {
			want := 0
			for range c.Blocks - bad - c.Spare - 1 {
				want += c.Pages
			}
			if got := plan.Room(c, bad); got != want {
				t.Errorf("%v, %d bad: %d, not %d", c, bad, got, want)
			}
			if got := plan.Fits(c, bad); got != (want >= 18) {
				t.Errorf("%v, %d bad: fits %t", c, bad, got)
			}
		}
	})
}

// P6.1: Room hangs neither on data nor on wear, Fits not on wear; of each data there is a room that is just enough.
func TestFitsData(t *testing.T) {
	for _, base := range bases() {
		for data := 1; data <= 60; data++ {
			for wear := 2; wear <= 50; wear++ {
				c := of(base.Blocks, base.Pages, base.Spare, data, wear)
				for bad := range c.Blocks + 1 {
					room := plan.Room(base, bad)
					if got := plan.Room(c, bad); got != room {
						t.Errorf("%v, %d bad: %d, not %d", c, bad, got, room)
					}
					if got := plan.Fits(c, bad); got != (data <= room-8) {
						t.Errorf("%v, %d bad: room %d, fits %t", c, bad, room, got)
					}
				}
			}
		}
	}
}

// P6.1: bad is 0 to Blocks: beyond that there is no room, and nothing fits.
func TestRoomNone(t *testing.T) {
	for _, c := range bases() {
		for _, bad := range append([]int{c.Blocks + 1, c.Blocks + 2, c.Blocks + 65, -c.Blocks}, far...) {
			if bad <= c.Blocks && bad >= 0 {
				continue
			}
			if r, fits := plan.Room(c, bad), plan.Fits(c, bad); r != 0 || fits {
				t.Errorf("%v, %d bad: room %d, fits %t", c, bad, r, fits)
			}
		}
	}
}

// P6.2: how many clean blocks there must be: one less for each that has become bad, till it is none.
func TestFloor(t *testing.T) {
	for _, x := range []struct{ spare, bad, want int }{
		{0, 0, 1}, {0, 1, 0}, {0, 2, 0}, {1, 0, 2}, {1, 1, 1}, {1, 2, 0}, {1, 3, 0},
		{6, 0, 7}, {6, 1, 6}, {6, 5, 2}, {6, 6, 1}, {6, 7, 0}, {6, 8, 0}, {6, 64, 0}, {6, 65, 0},
		{0, -1, 0}, {6, -1, 0}, {6, -7, 0}, {6, math.MinInt, 0}, {0, math.MinInt, 0},
		{6, math.MaxInt, 0}, {0, math.MaxInt, 0}, {6, 1 << 32, 0}, {6, 1<<32 + 1, 0}, {6, -1 << 32, 0},
	} {
		for _, c := range []api.Config{of(6, 8, x.spare, 10, 2), of(3, 2, x.spare, 1, 2), of(64, 32, x.spare, 60, 50)} {
			for range 2 {
				if got := plan.Floor(c, x.bad); got != x.want {
					t.Errorf("%v, %d bad: %d, not %d", c, x.bad, got, x.want)
				}
			}
		}
	}
}

// P6.2: Floor hangs on the spare blocks alone; it goes on beyond the blocks that there are.
func TestFloorAll(t *testing.T) {
	sizes(7, 5, func(c api.Config) {
		want := c.Spare + 1
		for bad := range 70 {
			if got := plan.Floor(c, bad); got != want {
				t.Errorf("%v, %d bad: %d, not %d", c, bad, got, want)
			}
			want -= min(want, 1)
		}
		for _, bad := range far {
			if got := plan.Floor(c, bad); got != 0 {
				t.Errorf("%v, %d bad: %d", c, bad, got)
			}
		}
	})
}

// lessRoom: where there was room, there are less's pages fewer; where there was none, there is none; what did not fit does not.
func lessRoom(t *testing.T, c api.Config, bad int, less api.Config, lessBad int) {
	t.Helper()
	was, is := plan.Room(c, bad), plan.Room(less, lessBad)
	if was > 0 && is != was-c.Pages && is != 0 || was > 0 && is >= was || was == 0 && is != 0 {
		t.Errorf("%v, %d bad: room %d; %v, %d bad: room %d", c, bad, was, less, lessBad, is)
	}
	if plan.Fits(less, lessBad) && !plan.Fits(c, bad) {
		t.Errorf("%v, %d bad: does not fit; %v, %d bad: does", c, bad, less, lessBad)
	}
}

// P6.3: with one block less, or one more that is bad, and with one more spare block there is less room.
func TestLessRoom(t *testing.T) {
	sizes(20, 3, func(c api.Config) {
		for bad := range c.Blocks + 1 {
			less, more := c, c
			less.Blocks--
			more.Spare++
			lessRoom(t, c, bad, less, bad)
			lessRoom(t, c, bad, more, bad)
			lessRoom(t, c, bad, c, bad+1)
		}
	})
}

// P6.3: so where it fits, the blocks that are neither bad nor clean, beside the Floor that is kept, have more pages
// than may be live, however many of the spare ones have become bad; and where it does not fit, they have not.
func TestEnough(t *testing.T) {
	sizes(31, 4, func(c api.Config) {
		live := c.Data + 1 + api.MaxFile + 1
		for bad := range c.Blocks + 1 {
			for since := range c.Spare + 1 {
				pages := (c.Blocks - bad - since - plan.Floor(c, since)) * c.Pages
				if got := plan.Fits(c, bad); got != (pages > live) {
					t.Errorf("%v, %d bad, %d since: %d pages, fits %t", c, bad, since, pages, got)
				}
			}
		}
	})
}

// R3: every call ends, without a panic, whatever is handed in, and tells no number below 0.
func TestAnything(t *testing.T) {
	some := []int{math.MinInt, -1 << 32, -1, 0, 1, 2, 3, 6, 7, 32, 50, 60, 64, 1<<32 + 3, math.MaxInt}
	for _, blocks := range some {
		for _, pages := range some {
			for _, spare := range some {
				for _, data := range some {
					c := of(blocks, pages, spare, data, 2)
					is := plan.May(c)
					for _, bad := range some {
						need, room, floor, fits := plan.Need(c), plan.Room(c, bad), plan.Floor(c, bad), plan.Fits(c, bad)
						if need < 0 || room < 0 || floor < 0 || !is && (need != 0 || room != 0 || floor != 0 || fits) {
							t.Errorf("%v, %d bad: %d, %d, %d, %t", c, bad, need, room, floor, fits)
						}
					}
				}
			}
		}
	}
}
