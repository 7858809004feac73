package sheet_test

import (
	"bytes"
	"encoding/hex"
	"fmt"
	"math"
	"slices"
	"strings"
	"testing"

	"potsherd/api"
	"potsherd/chip"
	"potsherd/sheet"
)

const (
	pages  = api.MaxNodes * api.MaxFile
	maxSeq = 1 << 40
	mark   = "5a"
)

// sheets: what may be, with the least and the greatest of each number, as bytes.
var sheets = []struct {
	page, seq int
	data      string
	want      string
}{
	{0, 1, "", "0001005a"},
	{1, 1, "", "0101005a"},
	{59, 1, "", "3b01005a"},
	{60, 1, "", "3c01005a"},
	{0, 2, "a", "000201615a"},
	{0, 127, "", "007f005a"},
	{0, 128, "", "008100005a"},
	{7, 300, "Z", "07822c015a5a"},
	{12, 1<<14 - 1, "ab", "0cff7f0261625a"},
	{12, 1 << 14, "ab", "0c8180000261625a"},
	{5, 1<<35 - 1, "\x00", "05ffffffff7f01005a"},
	{5, 1 << 35, "\x80", "0581808080800001805a"},
	{60, maxSeq - 1, "abc", "3c9fffffffff7f036162635a"},
	{60, maxSeq, "abc", "3ca08080808000036162635a"},
	{3, 90, "ZZZ", "035a035a5a5a5a"},
	{1, 4, "\x00\x01\x00\x5a", "0104040001005a5a"},
	{0, 5, strings.Repeat("d", 127), "00057f" + strings.Repeat("64", 127) + mark},
	{0, 5, strings.Repeat("d", 128), "00058100" + strings.Repeat("64", 128) + mark},
	{9, 1, strings.Repeat("e", 1995), "09018f4b" + strings.Repeat("65", 1995) + mark},
	{60, maxSeq, strings.Repeat("\x00", 1990), "3ca080808080008f46" + strings.Repeat("00", 1990) + mark},
}

// noSheets: bytes that are no sheet.
var noSheets = map[string]string{
	"nothing":                        "",
	"a page alone":                   "00",
	"no data and no end":             "0001",
	"no end":                         "000100",
	"data and no end":                "00010161",
	"the end alone":                  "5a",
	"another end":                    "0001005b",
	"an end of 0":                    "00010000",
	"the end with a bit more":        "000100da",
	"a byte behind":                  "0001005a00",
	"an end behind":                  "0001005a5a",
	"a sheet behind":                 "0001005a0001005a",
	"a byte ahead":                   "000001005a",
	"page 61":                        "3d01005a",
	"page 127":                       "7f01005a",
	"page 128":                       "810001005a",
	"a page with a needless nought":  "800001005a",
	"page 60 with a needless nought": "803c01005a",
	"seq 0":                          "0000005a",
	"seq 0, a page and data":         "0700016a5a",
	"the seq above the greatest":     "00a08080808001005a",
	"a seq of six digits, too great": "00ffffffffff7f005a",
	"a seq of seven digits":          "0081808080808000005a",
	"a seq with a needless nought":   "008001005a",
	"a length with a needless one":   "000180005a",
	"a length of one less":           "00010161625a",
	"a length of one more":           "00010361625a",
	"a length that takes the end":    "000102615a",
	"a length beyond all":            "0001a080808080005a",
	"a length of seven digits":       "0001818080808080005a",
	"the end as data":                "0001015a",
}

func raw(text string) []byte {
	b, err := hex.DecodeString(text)
	if err != nil {
		panic(err)
	}
	return b
}

var tail = []byte{0x00, 0x01, 0x00, 0x5a, 0x5a, 0x5a, 0x61, 0xff}

// roomy is b with bytes behind its length, that are neither to be read nor to be written.
func roomy(b []byte) []byte {
	return slices.Concat(b, tail)[:len(b)]
}

// kept sees to it that a roomy list is as it was, and what lies behind its length, too.
func kept(t *testing.T, name string, b, was []byte) {
	t.Helper()
	if !bytes.Equal(b, was) {
		t.Errorf("%s: changed: %x", name, b)
	}
	if got := b[len(b) : len(b)+len(tail)]; !bytes.Equal(got, tail) {
		t.Errorf("%s: changed behind the length: %x", name, got)
	}
}

func of(page, seq int, data []byte) api.Sheet {
	return api.Sheet{Page: page, Seq: seq, Data: data}
}

func same(a, b api.Sheet) bool {
	return a.Page == b.Page && a.Seq == b.Seq && bytes.Equal(a.Data, b.Data)
}

// short is a sheet that can be told in a line.
func short(s api.Sheet) string {
	return fmt.Sprintf("page %d, seq %d, %d bytes", s.Page, s.Seq, len(s.Data))
}

// refused: a sheet that may not be.
func refused(t *testing.T, s api.Sheet) {
	t.Helper()
	if sheet.May(s) {
		t.Errorf("%s: may be", short(s))
	}
	if b, err := sheet.Bytes(s); err != api.ErrArg || len(b) != 0 {
		t.Errorf("%s: %d bytes, %d", short(s), len(b), err)
	}
}

// written: a sheet that may be, and its bytes, which are told.
func written(t *testing.T, s api.Sheet) []byte {
	t.Helper()
	if !sheet.May(s) {
		t.Errorf("%s: may not be", short(s))
	}
	b, err := sheet.Bytes(s)
	if err != api.OK || len(b) > api.MaxSheet {
		t.Errorf("%s: %d bytes, %d", short(s), len(b), err)
	}
	return b
}

// none: bytes that are no sheet.
func none(t *testing.T, name string, b []byte) {
	t.Helper()
	if s, err := sheet.Parse(b); err != api.ErrForm || !same(s, api.Sheet{}) {
		t.Errorf("%s: %s, %d", name, short(s), err)
	}
}

// back: bytes that are this sheet.
func back(t *testing.T, b []byte, want api.Sheet) {
	t.Helper()
	if s, err := sheet.Parse(b); err != api.OK || !same(s, want) {
		t.Errorf("%s, %d, not %s", short(s), err, short(want))
	}
}

// P5.1: the chapter's example, and the others.
func TestBytes(t *testing.T) {
	for _, x := range sheets {
		s := of(x.page, x.seq, []byte(x.data))
		for range 2 {
			if got := written(t, s); !bytes.Equal(got, raw(x.want)) {
				t.Errorf("%s: %x", short(s), got)
			}
		}
	}
	if got := written(t, of(0, 1, nil)); !bytes.Equal(got, []byte{0x00, 0x01, 0x00, 0x5a}) {
		t.Errorf("the example: %x", got)
	}
}

// P5.1: nil and empty lists are one.
func TestNilAndEmpty(t *testing.T) {
	for _, data := range [][]byte{nil, {}, roomy(nil)} {
		if got := written(t, of(0, 1, data)); !bytes.Equal(got, raw("0001005a")) {
			t.Errorf("%x", got)
		}
	}
	none(t, "nil", nil)
	none(t, "empty", []byte{})
	none(t, "empty, with bytes behind the length", roomy(nil))
}

// P5.1: the page is 0 to MaxNodes times MaxFile.
func TestMayPage(t *testing.T) {
	for page := -3; page <= 200; page++ {
		s := of(page, 1, []byte("abc"))
		if page < 0 || page > pages {
			refused(t, s)
		} else {
			back(t, written(t, s), s)
		}
	}
	for _, page := range []int{math.MinInt, -maxSeq, -61, 256, 1 << 32, 1<<32 + 1, maxSeq, maxSeq + 1, math.MaxInt} {
		refused(t, of(page, 1, nil))
	}
}

// P5.1: the seq is 1 to MaxSeq.
func TestMaySeq(t *testing.T) {
	for _, seq := range []int{math.MinInt, -maxSeq, -2, -1, 0, maxSeq + 1, maxSeq + 2, 1 << 41, 1 << 62, math.MaxInt} {
		refused(t, of(0, seq, nil))
		refused(t, of(60, seq, []byte("abc")))
	}
	for _, seq := range []int{1, 2, 126, 127, 128, 1<<20 + 3, 1 << 32, 1<<32 + 1, maxSeq - 1, maxSeq} {
		s := of(60, seq, []byte("abc"))
		back(t, written(t, s), s)
	}
}

// P5.1: the bytes are MaxSheet at most; how many of them are data hangs on how many digits the seq has.
func TestMaySize(t *testing.T) {
	data := bytes.Repeat([]byte{0x5a, 0x00, 0x81}, 1000)
	for digits, seq := range []int{1, 1 << 7, 1 << 14, 1 << 21, 1 << 28, 1 << 35} {
		most := 1995 - digits
		for _, seq := range []int{seq, min(seq<<7-1, maxSeq)} {
			for _, page := range []int{0, 60} {
				s := of(page, seq, data[:most])
				b := written(t, s)
				if len(b) != api.MaxSheet {
					t.Errorf("%s: %d bytes", short(s), len(b))
				}
				back(t, b, s)
				s.Data = data[:most-1]
				if b = written(t, s); len(b) != api.MaxSheet-1 {
					t.Errorf("%s: %d bytes", short(s), len(b))
				}
				for n := most + 1; n <= 2005; n++ {
					refused(t, of(page, seq, data[:n]))
				}
			}
		}
	}
	refused(t, of(0, 1, make([]byte, 16383)))
	refused(t, of(0, 1, make([]byte, 1<<22)))
}

// P5.1: where several things may not be, it is ErrArg all the same.
func TestMayNothing(t *testing.T) {
	long := make([]byte, 2001)
	for _, s := range []api.Sheet{{}, of(0, 0, []byte("a")), of(-1, 0, long), of(61, maxSeq+1, long), of(61, 1, long), of(1, 0, long)} {
		refused(t, s)
	}
}

// P5.1: what is told is new, what is handed in is neither changed nor kept.
func TestBytesNew(t *testing.T) {
	for _, n := range []int{0, 1, 3, 8, 127, 128, 1990, 1995} {
		was := bytes.Repeat([]byte{0x61}, n)
		data := roomy(was)
		s := of(2, 3, data)
		sheet.May(s)
		kept(t, "May", data, was)
		first, other := written(t, s), written(t, s)
		kept(t, "Bytes", data, was)
		want := slices.Clone(first)
		for i := range data {
			data[i] = 0xee
		}
		if !bytes.Equal(first, want) {
			t.Errorf("%d bytes: kept: %x", n, first)
		}
		for i := range first {
			first[i] = 0xdd
		}
		_ = append(first, 0xdd, 0xdd)
		if !bytes.Equal(other, want) || !bytes.Equal(data, bytes.Repeat([]byte{0xee}, n)) {
			t.Errorf("%d bytes: shared: %x, %x", n, other, data)
		}
	}
	data := roomy(make([]byte, 1996))
	refused(t, of(0, 1, data))
	kept(t, "refused", data, make([]byte, 1996))
}

// P5.1: what is a sheet is told.
func TestParse(t *testing.T) {
	for _, x := range sheets {
		want := of(x.page, x.seq, []byte(x.data))
		for range 2 {
			back(t, raw(x.want), want)
			back(t, roomy(raw(x.want)), want)
		}
	}
}

// P5.1: what is none is not.
func TestParseNone(t *testing.T) {
	for name, text := range noSheets {
		none(t, name, raw(text))
		none(t, name+", with more behind the length", roomy(raw(text)))
	}
	for n := 1996; n <= 2002; n++ {
		b := append(append([]byte{0, 1, 0x80 | byte(n>>7), byte(n & 127)}, make([]byte, n)...), 0x5a)
		none(t, fmt.Sprint("too long: data of ", n), b)
	}
	for n := 1991; n <= 2002; n++ {
		b := append(raw("3ca08080808000"), 0x80|byte(n>>7), byte(n&127))
		none(t, fmt.Sprint("too long: the greatest seq, and data of ", n), append(append(b, make([]byte, n)...), 0x5a))
	}
	none(t, "many noughts", make([]byte, 1<<20))
	none(t, "many ends", bytes.Repeat([]byte{0x5a}, 1<<20))
	none(t, "many digits", bytes.Repeat([]byte{0xff}, 1<<20))
}

// P5.1: of a sheet's last byte one may be, of its first one those of pages, of its second one those of seqs.
func TestParseEachByte(t *testing.T) {
	for i := range 256 {
		d := byte(i)
		want := map[int]bool{0: i <= pages, 1: i >= 1 && i <= 127, 2: i == 2, 5: i == 0x5a}
		for at, is := range want {
			b := raw("0001026162" + mark)
			b[at] = d
			if _, err := sheet.Parse(b); (err == api.OK) != is {
				t.Errorf("%x: %d", b, err)
			}
		}
	}
}

// each does f for each list of n bytes of these.
func each(n int, of []byte, f func([]byte)) {
	b := make([]byte, n)
	var fill func(int)
	fill = func(at int) {
		if at == n {
			f(b)
			return
		}
		for _, d := range of {
			b[at] = d
			fill(at + 1)
		}
	}
	fill(0)
}

// P5.1: of all lists of at most 5 bytes (of some) these are sheets, and no others, that Bytes tells of some sheet.
func TestParseAllShort(t *testing.T) {
	some := []byte{0x00, 0x01, 0x02, 0x3c, 0x3d, 0x5a, 0x7f, 0x80, 0x81, 0xff}
	all := map[string]api.Sheet{}
	for _, page := range some {
		for seq := range 1 << 14 {
			for data := range len(some) + 1 {
				s := of(int(page), seq, some[max(data-1, 0):data])
				if b, err := sheet.Bytes(s); err == api.OK && len(b) <= 5 {
					all[string(b)] = s
				}
			}
		}
	}
	for n := range 6 {
		each(n, some, func(b []byte) {
			s, err := sheet.Parse(b)
			want, is := all[string(b)]
			if is && (err != api.OK || !same(s, want)) || !is && (err != api.ErrForm || !same(s, api.Sheet{})) {
				t.Errorf("%x: %v, %d, not %v", b, s, err, want)
			}
		})
	}
}

// dice tells numbers that look like none in particular, the same each time.
type dice uint64

func (d *dice) below(n int) int {
	*d = *d*6364136223846793005 + 1442695040888963407
	return int(uint64(*d)>>33) % n
}

// P5.1: whatever is handed in, Parse ends, and what it takes for a sheet is one, and is written as these bytes.
func TestParseAnything(t *testing.T) {
	d, taken := dice(1), 0
	for range 200000 {
		b := raw(sheets[d.below(16)].want)
		for range d.below(4) {
			b[d.below(len(b))] = byte(d.below(256))
		}
		b = append(b, tail[:d.below(3)*d.below(2)]...)
		s, err := sheet.Parse(b)
		switch err {
		case api.OK:
			taken++
			if got := written(t, s); !bytes.Equal(got, b) {
				t.Errorf("%x: %x", b, got)
			}
		case api.ErrForm:
			if !same(s, api.Sheet{}) {
				t.Errorf("%x: %v beside an error", b, s)
			}
		default:
			t.Errorf("%x: %d", b, err)
		}
	}
	if taken < 50000 {
		t.Errorf("%d sheets", taken)
	}
}

// P5.1: what is told is new, what is handed in is neither changed nor kept.
func TestParseNew(t *testing.T) {
	for _, x := range sheets {
		was, want := raw(x.want), of(x.page, x.seq, []byte(x.data))
		b := roomy(was)
		first, _ := sheet.Parse(b)
		other, _ := sheet.Parse(b)
		kept(t, "Parse", b, was)
		for i := range b {
			b[i] = 0xee
		}
		if !same(first, want) {
			t.Errorf("kept: %s", short(first))
		}
		for i := range first.Data {
			first.Data[i] = 0xdd
		}
		_ = append(first.Data, 0xdd, 0xdd)
		if !same(other, want) {
			t.Errorf("shared with another answer: %s", short(other))
		}
		kept(t, "written into", b, bytes.Repeat([]byte{0xee}, len(b)))
	}
	b := roomy(raw("00010161"))
	none(t, "no end", b)
	kept(t, "no end", b, raw("00010161"))
}

// P5.2: the pages of all nodes, in order, and back.
func TestNumber(t *testing.T) {
	want := 0
	for node := range api.MaxNodes {
		for page := range api.MaxFile {
			want++
			if got := sheet.Number(node, page); got != want {
				t.Errorf("node %d, page %d: %d, not %d", node, page, got, want)
			}
			if n, p := sheet.Split(want); n != node || p != page {
				t.Errorf("%d: node %d, page %d, not %d, %d", want, n, p, node, page)
			}
		}
	}
	if want != pages {
		t.Errorf("%d pages", want)
	}
	for _, x := range [][3]int{{0, 0, 1}, {0, 4, 5}, {1, 0, 6}, {3, 2, 18}, {11, 0, 56}, {11, 4, 60}} {
		if got := sheet.Number(x[0], x[1]); got != x[2] {
			t.Errorf("node %d, page %d: %d, not %d", x[0], x[1], got, x[2])
		}
	}
}

// P5.2: no such node, or no such page.
func TestNumberNone(t *testing.T) {
	edges := []int{math.MinInt, math.MinInt + 1, -1 << 32, -60, -12, -5, -2, -1, 0, 3, 4, 5, 6, 10, 11, 12, 13, 60, 1 << 32, 1 << 61, 1 << 62, math.MaxInt - 1, math.MaxInt}
	for _, node := range edges {
		for _, page := range edges {
			is := node >= 0 && node <= 11 && page >= 0 && page <= 4
			if got := sheet.Number(node, page); (got != 0) != is {
				t.Errorf("node %d, page %d: %d", node, page, got)
			}
		}
	}
}

// P5.2: no such page of a file: page 0 is the root's, behind the 60th there is none.
func TestSplitNone(t *testing.T) {
	for _, n := range []int{math.MinInt, math.MinInt + 1, -60, -5, -1, 0, 61, 62, 65, 120, 1 << 32, 1<<32 + 1, math.MaxInt - 1, math.MaxInt} {
		if node, page := sheet.Split(n); node != -1 || page != -1 {
			t.Errorf("%d: node %d, page %d", n, node, page)
		}
	}
}

// begun: no beginning of a sheet is one, whether the rest is behind its length or not; all of it is.
func begun(t *testing.T, s api.Sheet) {
	t.Helper()
	b := written(t, s)
	for n := range b {
		none(t, short(s)+", begun", b[:n])
		none(t, short(s)+", begun", slices.Clone(b[:n]))
	}
	back(t, b, s)
}

// P5.3: sheets of all kinds, with data that looks like a sheet, or like the end of one, too.
func TestBegun(t *testing.T) {
	for _, x := range sheets {
		begun(t, of(x.page, x.seq, []byte(x.data)))
	}
	for _, seq := range []int{1, 90, 0x5a<<7 | 0x5a, maxSeq} {
		for n := range 300 {
			for _, d := range []byte{0x00, 0x01, 0x5a, 0x80, 0xff} {
				begun(t, of(n%61, seq, bytes.Repeat([]byte{d}, n)))
			}
		}
	}
	s := of(0, 1, nil)
	for range 200 {
		b := written(t, s)
		begun(t, s)
		s = of(len(b)%61, 1+len(b), b)
	}
}

// P5.3: a page that is torn as it is programmed, by the power or as it fails, is none; the one ahead of it stays one.
func TestTorn(t *testing.T) {
	for _, x := range sheets[:16] {
		s := of(x.page, x.seq, []byte(x.data))
		b := written(t, s)
		for keep := range len(b) + 3 {
			cut, failed := chip.New(1, 2, nil), chip.New(1, 2, nil)
			cut.Cut(1, keep)
			failed.Fail(1)
			for _, c := range []*chip.Chip{cut, failed} {
				c.Program(api.Spot{Page: 0}, b)
				c.Program(api.Spot{Page: 1}, b)
				c.Power()
				ahead, _ := c.Read(api.Spot{Page: 0})
				back(t, ahead, s)
				torn, _ := c.Read(api.Spot{Page: 1})
				if c == cut && keep >= len(b) {
					back(t, torn, s)
				} else {
					none(t, "torn", torn)
				}
			}
		}
	}
}
