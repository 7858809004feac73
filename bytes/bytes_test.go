package bytes_test

import (
	"encoding/hex"
	"math"
	"slices"
	"strings"
	"testing"

	"potsherd/api"
	"potsherd/bytes"
)

const greatest = 1 << 40

// numbers: the first and the last one of each count of digits, and others, as they are written.
var numbers = []struct {
	n    int
	want string
}{
	{0, "00"},
	{1, "01"},
	{2, "02"},
	{64, "40"},
	{126, "7e"},
	{127, "7f"},
	{128, "8100"},
	{129, "8101"},
	{255, "817f"},
	{256, "8200"},
	{300, "822c"},
	{1<<14 - 1, "ff7f"},
	{1 << 14, "818000"},
	{1<<14 + 1, "818001"},
	{1<<21 - 1, "ffff7f"},
	{1 << 21, "81808000"},
	{1<<28 - 1, "ffffff7f"},
	{1 << 28, "8180808000"},
	{4328719365, "90908c8805"},
	{1<<35 - 1, "ffffffff7f"},
	{1 << 35, "818080808000"},
	{123456789012, "83cbf4e4b414"},
	{greatest - 1, "9fffffffff7f"},
	{greatest, "a08080808000"},
}

// noNumbers: what no number begins with.
var noNumbers = map[string]string{
	"nothing":                       "",
	"one digit of two":              "81",
	"the greatest digit of two":     "ff",
	"two digits of three":           "8180",
	"three digits of four":          "ffffff",
	"four digits of five":           "81808080",
	"five digits of six":            "a080808080",
	"six digits of more":            "818080808080",
	"the greatest six of more":      "ffffffffffff",
	"seven digits":                  "81808080808000",
	"seven digits, and more behind": "8180808080800001020304",
	"seven that are 0 in the end":   "ffffffffffff00",
	"twenty digits":                 strings.Repeat("81", 19) + "01",
	"a nought alone":                "80",
	"a nought ahead of 0":           "8000",
	"a nought ahead of 1":           "8001",
	"a nought ahead of 300":         "80822c",
	"two noughts ahead":             "808005",
	"a nought as the first of six":  "808080808001",
	"six noughts":                   "808080808080",
}

var tail = []byte{0x11, 0x22, 0x33, 0x44, 0x55, 0x66, 0x77, 0x08, 0x09}

func raw(text string) []byte {
	b, err := hex.DecodeString(text)
	if err != nil {
		panic(err)
	}
	return b
}

// roomy is b with bytes behind its length, that are neither to be read nor to be written.
func roomy(b []byte) []byte {
	return slices.Concat(b, tail)[:len(b)]
}

// kept sees to it that a roomy list is as it was, and what lies behind its length, too.
func kept(t *testing.T, name string, b, was []byte) {
	t.Helper()
	if !slices.Equal(b, was) {
		t.Errorf("%s: changed: %x", name, b)
	}
	if got := b[len(b) : len(b)+len(tail)]; !slices.Equal(got, tail) {
		t.Errorf("%s: changed behind the length: %x", name, got)
	}
}

func same(t *testing.T, name string, got, want []byte) {
	t.Helper()
	if !slices.Equal(got, want) {
		t.Errorf("%s: %x, not %x", name, got, want)
	}
}

// at holds what a reader tells of itself against what it should; to ask changes nothing.
func at(t *testing.T, name string, r *bytes.Reader, left int, err api.Errno) {
	t.Helper()
	for range 2 {
		if got := r.Left(); got != left {
			t.Errorf("%s: Left %d, not %d", name, got, left)
		}
		if got := r.Err(); got != err {
			t.Errorf("%s: Err %d, not %d", name, got, err)
		}
	}
}

// stopped: a reader that has met an error tells nothing, and reads nothing, whatever is left.
func stopped(t *testing.T, name string, r *bytes.Reader, left int) {
	t.Helper()
	at(t, name, r, left, api.ErrForm)
	for range 2 {
		if got := r.Number(math.MaxInt); got != 0 {
			t.Errorf("%s: behind an error Number tells %d", name, got)
		}
		at(t, name, r, left, api.ErrForm)
		if got := r.Text(math.MaxInt); len(got) != 0 {
			t.Errorf("%s: behind an error Text tells %x", name, got)
		}
		at(t, name, r, left, api.ErrForm)
	}
}

// noNumber: Number refuses, and reads nothing.
func noNumber(t *testing.T, name string, r *bytes.Reader, most int) {
	t.Helper()
	left := r.Left()
	if got := r.Number(most); got != 0 {
		t.Errorf("%s: Number tells %d beside an error", name, got)
	}
	stopped(t, name, r, left)
}

// noText: Text refuses, and reads nothing, not the number of bytes either.
func noText(t *testing.T, name string, r *bytes.Reader, most int) {
	t.Helper()
	left := r.Left()
	if got := r.Text(most); len(got) != 0 {
		t.Errorf("%s: Text tells %x beside an error", name, got)
	}
	stopped(t, name, r, left)
}

// P3.1, Number: ahead of it nothing, or bytes.
func TestNumber(t *testing.T) {
	for _, x := range numbers {
		same(t, "of nil", bytes.Number(nil, x.n), raw(x.want))
		same(t, "of none", bytes.Number([]byte{}, x.n), raw(x.want))
		for _, ahead := range []string{"00", "80", "ff", "616263", "8180808080808080"} {
			b := roomy(raw(ahead))
			same(t, "behind "+ahead, bytes.Number(b, x.n), raw(ahead+x.want))
			kept(t, "behind "+ahead, b, raw(ahead))
		}
		none := roomy(nil)
		same(t, "of none, with room", bytes.Number(none, x.n), raw(x.want))
		kept(t, "of none, with room", none, nil)
	}
}

// P3.1, Number: below 0 it is 0, above 2^40 that.
func TestNumberHeld(t *testing.T) {
	for n, want := range map[int]string{
		-1: "00", -2: "00", -127: "00", -128: "00", -300: "00", -greatest: "00", -greatest - 1: "00", math.MinInt: "00", math.MinInt + 1: "00",
		greatest + 1: "a08080808000", greatest + 128: "a08080808000", 2 * greatest: "a08080808000", 1 << 42: "a08080808000",
		1<<42 - 1: "a08080808000", 1 << 62: "a08080808000", math.MaxInt: "a08080808000",
	} {
		same(t, "held", bytes.Number(nil, n), raw(want))
		same(t, "held, behind bytes", bytes.Number(raw("05ff"), n), raw("05ff"+want))
	}
}

// P3.1, Number: in as few digits as it goes, worked out here from the value alone.
func TestFewDigits(t *testing.T) {
	check := func(n int) {
		b := bytes.Number(nil, n)
		value, digits := 0, 1
		for i, d := range b {
			value = value*128 + int(d)%128
			if (d >= 128) != (i < len(b)-1) {
				t.Fatalf("%d: %x", n, b)
			}
		}
		for rest := n / 128; rest > 0; rest /= 128 {
			digits++
		}
		if value != n || len(b) != digits {
			t.Fatalf("%d: %x is %d", n, b, value)
		}
	}
	for n := range 1 << 15 {
		check(n)
	}
	for bit := 15; bit < 40; bit++ {
		for _, more := range []int{-2, -1, 0, 1, 2, 127, 128, 1 << 14} {
			check(1<<bit + more)
		}
	}
	for n := 1; n < greatest; n = n*3 + 1 {
		check(n)
	}
}

// P3.1, Text: b, how many bytes, and they.
func TestText(t *testing.T) {
	for name, x := range map[string]struct{ s, want string }{
		"empty":              {"", "00"},
		"one byte":           {"61", "0161"},
		"a nought":           {"00", "0100"},
		"three":              {"616263", "03616263"},
		"like a number":      {"822c", "02822c"},
		"all bits":           {"ffff80007f", "05ffff80007f"},
		"127 bytes":          {strings.Repeat("5a", 127), "7f" + strings.Repeat("5a", 127)},
		"128 bytes":          {strings.Repeat("5b", 128), "8100" + strings.Repeat("5b", 128)},
		"300 bytes":          {strings.Repeat("80", 300), "822c" + strings.Repeat("80", 300)},
		"the last of two":    {strings.Repeat("01", 1<<14-1), "ff7f" + strings.Repeat("01", 1<<14-1)},
		"the first of three": {strings.Repeat("02", 1<<14), "818000" + strings.Repeat("02", 1<<14)},
	} {
		for _, ahead := range []string{"", "00", "ff", "036162"} {
			b, s := roomy(raw(ahead)), roomy(raw(x.s))
			same(t, name, bytes.Text(b, s), raw(ahead+x.want))
			kept(t, name, b, raw(ahead))
			kept(t, name, s, raw(x.s))
		}
		same(t, name, bytes.Text(nil, raw(x.s)), raw(x.want))
	}
	same(t, "nil", bytes.Text(nil, nil), raw("00"))
	same(t, "nil behind bytes", bytes.Text(raw("09"), nil), raw("0900"))
}

// R2: what Number and Text tell is new memory: whoever writes into it, or into what was handed in, changes nothing else.
func TestWrittenIsNew(t *testing.T) {
	b, s := roomy(raw("616263")), roomy(raw("7879"))
	for name, write := range map[string]func() []byte{
		"Number": func() []byte { return bytes.Number(b, 300) },
		"Text":   func() []byte { return bytes.Text(b, s) },
		"empty":  func() []byte { return bytes.Text(b, nil) },
	} {
		one, other := write(), write()
		was := slices.Clone(other)
		for i := range one {
			one[i] = 0xee
		}
		one = append(one, 0xee, 0xee, 0xee, 0xee)
		same(t, name, other, was)
		same(t, name, write(), was)
		kept(t, name, b, raw("616263"))
		kept(t, name, s, raw("7879"))
		b[0], s[0] = 0xdd, 0xdd
		same(t, name+", written into what was handed in", other, was)
		b[0], s[0] = 0x61, 0x78
	}
	// A text that is a piece of what it is put behind.
	same(t, "a piece", bytes.Text(b, b[1:]), raw("616263026263"))
	same(t, "what lies behind", bytes.Text(b, b[:5][1:5]), raw("616263046263"+hex.EncodeToString(tail[:2])))
	kept(t, "a piece", b, raw("616263"))
}

// P3.2, Number: with a bound that is the number itself, and greater ones; nothing behind it is read.
func TestReadNumber(t *testing.T) {
	for _, x := range numbers {
		for _, most := range []int{x.n, x.n + 1, 2 * greatest, math.MaxInt} {
			for _, behind := range []string{"", "00", "80", "ff7f", "616263"} {
				r := bytes.NewReader(raw(x.want + behind))
				at(t, x.want, r, len(x.want)/2+len(behind)/2, api.OK)
				if got := r.Number(most); got != x.n {
					t.Errorf("%s, at most %d: %d, not %d", x.want, most, got, x.n)
				}
				at(t, x.want, r, len(behind)/2, api.OK)
			}
		}
	}
}

// P3.2, Number: above its bound.
func TestReadNumberAbove(t *testing.T) {
	for _, x := range numbers {
		for _, most := range []int{x.n - 1, x.n / 2, 0, -1, math.MinInt} {
			if most < x.n {
				noNumber(t, x.want, bytes.NewReader(raw(x.want)), most)
				noNumber(t, x.want+" and more", bytes.NewReader(raw(x.want+"0102")), most)
			}
		}
	}
}

// P3.2, Number: six digits may be more than is ever written: the bound alone says whether that is read.
func TestReadNumberSixDigits(t *testing.T) {
	for text, n := range map[string]int{"a08080808001": greatest + 1, "ffffffffff7f": 1<<42 - 1, "c08080808000": 1 << 41} {
		r := bytes.NewReader(raw(text))
		if got := r.Number(n); got != n {
			t.Errorf("%s: %d, not %d", text, got, n)
		}
		at(t, text, r, 0, api.OK)
		noNumber(t, text, bytes.NewReader(raw(text)), n-1)
		noNumber(t, text, bytes.NewReader(raw(text)), greatest)
	}
}

// P3.2, Number: bytes that lack, more than six, a needless nought; at the beginning, and behind a number that is one.
func TestReadNoNumber(t *testing.T) {
	for name, text := range noNumbers {
		for _, most := range []int{math.MaxInt, greatest, 300, 0} {
			noNumber(t, name, bytes.NewReader(raw(text)), most)
			noNumber(t, name+", with room", bytes.NewReader(roomy(raw(text))), most)
		}
		r := bytes.NewReader(raw("822c" + text))
		if got := r.Number(300); got != 300 {
			t.Errorf("ahead of %s: %d", name, got)
		}
		at(t, name, r, len(text)/2, api.OK)
		noNumber(t, name, r, math.MaxInt)
	}
}

// P3.2, Number: each list of two bytes is read as the number that is so written, or refused.
func TestReadAllPairs(t *testing.T) {
	for a := range 256 {
		for b := range 256 {
			r := bytes.NewReader([]byte{byte(a), byte(b)})
			n, left, err := r.Number(math.MaxInt), 0, api.ErrForm
			want := 0
			switch {
			case a < 128:
				want, left, err = a, 1, api.OK
			case a > 128 && b < 128:
				want, left, err = (a-128)*128+b, 0, api.OK
			default:
				left = 2
			}
			if n != want || r.Left() != left || r.Err() != err {
				t.Fatalf("%02x %02x: %d, left %d, error %d", a, b, n, r.Left(), r.Err())
			}
			if err == api.OK && !slices.Equal(bytes.Number(nil, n), []byte{byte(a), byte(b)}[:2-left]) {
				t.Fatalf("%02x %02x: %d is written otherwise", a, b, n)
			}
		}
	}
}

// P3.2, Text: with a bound that is its length, and greater ones; nothing behind it is read.
func TestReadText(t *testing.T) {
	for name, x := range map[string]struct{ text, want string }{
		"empty":         {"00", ""},
		"one byte":      {"0161", "61"},
		"three":         {"03616263", "616263"},
		"like a number": {"02822c", "822c"},
		"all bits":      {"05ffff80007f", "ffff80007f"},
		"127 bytes":     {"7f" + strings.Repeat("5a", 127), strings.Repeat("5a", 127)},
		"128 bytes":     {"8100" + strings.Repeat("5b", 128), strings.Repeat("5b", 128)},
		"many":          {"818000" + strings.Repeat("5c", 1<<14), strings.Repeat("5c", 1<<14)},
	} {
		n := len(x.want) / 2
		for _, most := range []int{n, n + 1, greatest, math.MaxInt} {
			for _, behind := range []string{"", "00", "ff", "036162"} {
				r := bytes.NewReader(roomy(raw(x.text + behind)))
				same(t, name, r.Text(most), raw(x.want))
				at(t, name, r, len(behind)/2, api.OK)
			}
		}
	}
}

// P3.2, Text: longer than its bound, whether or not its bytes are there.
func TestReadTextAbove(t *testing.T) {
	for name, x := range map[string]struct {
		text string
		most int
	}{
		"three of two":             {"03616263", 2},
		"three of none":            {"03616263", 0},
		"three of less than none":  {"03616263", -1},
		"one of none":              {"0161", 0},
		"none of less than none":   {"00", -1},
		"none of the lowest":       {"00", math.MinInt},
		"128 of 127":               {"8100" + strings.Repeat("5b", 128), 127},
		"three of two, one lacks":  {"036162", 2},
		"the greatest of one less": {"a08080808000", greatest - 1},
	} {
		noText(t, name, bytes.NewReader(raw(x.text)), x.most)
		noText(t, name+", and more", bytes.NewReader(raw(x.text+"0000")), x.most)
	}
}

// P3.2, Text: bytes that lack: then the number of them is not read either.
func TestReadTextLacks(t *testing.T) {
	for name, text := range map[string]string{
		"all of one":           "01",
		"one of two":           "0261",
		"one of three":         "036162",
		"one of 127":           "7f" + strings.Repeat("5a", 126),
		"one of 128":           "8100" + strings.Repeat("5a", 127),
		"two of 128":           "8100" + strings.Repeat("5a", 126),
		"most of the greatest": "a08080808000" + "616263",
		"most of six digits":   "ffffffffff7f" + "00",
	} {
		for _, ahead := range []string{"", "05"} {
			for _, b := range [][]byte{raw(ahead + text), roomy(raw(ahead + text))} {
				r := bytes.NewReader(b)
				if ahead != "" && r.Number(5) != 5 {
					t.Errorf("ahead of %s", name)
				}
				noText(t, name, r, math.MaxInt)
			}
		}
	}
}

// P3.2, Text: what no number begins with has no text either.
func TestReadTextNoNumber(t *testing.T) {
	for name, text := range noNumbers {
		noText(t, name, bytes.NewReader(raw(text)), math.MaxInt)
		r := bytes.NewReader(raw("0161" + text))
		same(t, "ahead of "+name, r.Text(1), raw("61"))
		at(t, name, r, len(text)/2, api.OK)
		noText(t, name, r, math.MaxInt)
	}
	noText(t, "a nought ahead of a text", bytes.NewReader(raw("8001610000")), math.MaxInt)
}

// P3.2: numbers and texts in turn: Left and Err at each step, up to the first error, and behind it.
func TestSteps(t *testing.T) {
	r := bytes.NewReader(raw("822c" + "00" + "03616263" + "05" + "8001" + "00"))
	at(t, "new", r, 11, api.OK)
	if got := r.Number(300); got != 300 {
		t.Errorf("%d", got)
	}
	at(t, "a number", r, 9, api.OK)
	same(t, "empty", r.Text(0), nil)
	at(t, "an empty text", r, 8, api.OK)
	same(t, "three", r.Text(3), raw("616263"))
	at(t, "a text", r, 4, api.OK)
	if got := r.Number(5); got != 5 {
		t.Errorf("%d", got)
	}
	at(t, "another number", r, 3, api.OK)
	noNumber(t, "a nought", r, 5)
}

// P3.2: a reader of nothing has met no error, till something is asked of it.
func TestNothingToRead(t *testing.T) {
	for name, open := range map[string]func() *bytes.Reader{
		"nil":             func() *bytes.Reader { return bytes.NewReader(nil) },
		"none":            func() *bytes.Reader { return bytes.NewReader([]byte{}) },
		"none, with room": func() *bytes.Reader { return bytes.NewReader(roomy(nil)) },
		"made by itself":  func() *bytes.Reader { return &bytes.Reader{} },
	} {
		at(t, name, open(), 0, api.OK)
		noNumber(t, name, open(), math.MaxInt)
		noText(t, name, open(), math.MaxInt)
	}
}

// P3.2: a nil reader tells zero values, and ErrArg (R3).
func TestNilReader(t *testing.T) {
	var r *bytes.Reader
	for _, most := range []int{math.MaxInt, 1, 0, -1, math.MinInt} {
		if got := r.Number(most); got != 0 {
			t.Errorf("Number %d", got)
		}
		if got := r.Text(most); len(got) != 0 {
			t.Errorf("Text %x", got)
		}
		at(t, "nil", r, 0, api.ErrArg)
	}
}

// R2: a reader keeps nothing of what is handed in, and changes none of it.
func TestReaderKeepsNothing(t *testing.T) {
	b := roomy(raw("822c" + "03616263" + "07"))
	r := bytes.NewReader(b)
	for i := range b {
		b[i] = 0
	}
	if got := r.Number(300); got != 300 {
		t.Errorf("%d", got)
	}
	for i := range b {
		b[i] = 0xff
	}
	same(t, "written into", r.Text(3), raw("616263"))
	if got := r.Number(7); got != 7 {
		t.Errorf("%d", got)
	}
	at(t, "written into", r, 0, api.OK)
	b = roomy(raw("0261620163" + "05"))
	r = bytes.NewReader(b)
	r.Text(2)
	r.Text(1)
	r.Number(4)
	kept(t, "read", b, raw("026162016305"))
}

// R2: the texts that are told share no memory, neither with one another, nor with what is left, nor with what was handed in.
func TestTextsAreNew(t *testing.T) {
	b := raw("02616202636405")
	r, other := bytes.NewReader(b), bytes.NewReader(b)
	first := r.Text(2)
	first[0], first[1] = 0xee, 0xee
	_ = append(first, 0xee, 0xee, 0xee, 0xee)
	second := r.Text(2)
	same(t, "the second text", second, raw("6364"))
	second[0] = 0xdd
	same(t, "the first text", first, raw("eeee"))
	_ = append(second, 0xdd)
	if got := r.Number(5); got != 5 {
		t.Errorf("%d", got)
	}
	same(t, "handed in", b, raw("02616202636405"))
	same(t, "another reader", other.Text(2), raw("6162"))
}

// R6: an error is that reader's own: another one of the same bytes has met none.
func TestReadersAreApart(t *testing.T) {
	b := raw("050161")
	r, other := bytes.NewReader(b), bytes.NewReader(b)
	noNumber(t, "one", r, 4)
	at(t, "the other one", other, 3, api.OK)
	if got := other.Number(5); got != 5 {
		t.Errorf("%d", got)
	}
	at(t, "the other one", other, 2, api.OK)
	same(t, "the other one", other.Text(1), raw("61"))
	stopped(t, "one", r, 3)
}

// P3.3: all numbers, one behind the other.
func TestNumbersBack(t *testing.T) {
	var b []byte
	for _, x := range numbers {
		b = bytes.Number(b, x.n)
	}
	r, left := bytes.NewReader(b), len(b)
	for _, x := range numbers {
		if got := r.Number(greatest); got != x.n {
			t.Errorf("%d, not %d", got, x.n)
		}
		left -= len(x.want) / 2
		at(t, x.want, r, left, api.OK)
	}
	noNumber(t, "behind the last one", r, greatest)
}

// P3.3: numbers and texts of many lengths, in turn, behind bytes that were there.
func TestBothBack(t *testing.T) {
	text := func(i int) []byte {
		s := make([]byte, i*i/3)
		for j := range s {
			s[j] = byte(i*31 + j*7)
		}
		return s
	}
	number := func(i int) int { return (i*i*i*i*7919 + i) % (greatest + 1) }
	b := raw("0568656c6c6f")
	for i := range 80 {
		b = bytes.Text(bytes.Number(b, number(i)), text(i))
		b = bytes.Number(b, i)
	}
	r := bytes.NewReader(b)
	same(t, "ahead", r.Text(5), []byte("hello"))
	for i := range 80 {
		if got := r.Number(number(i)); got != number(i) {
			t.Fatalf("%d: %d, not %d", i, got, number(i))
		}
		if got := r.Text(len(text(i))); !slices.Equal(got, text(i)) {
			t.Fatalf("%d: %x", i, got)
		}
		if got := r.Number(i); got != i {
			t.Fatalf("%d: %d", i, got)
		}
	}
	at(t, "the end", r, 0, api.OK)
	noText(t, "behind the end", r, math.MaxInt)
}

// P3.3: what is cut off anywhere is read as it was up to there, and then refused.
func TestCutOff(t *testing.T) {
	whole := bytes.Text(bytes.Number(bytes.Text(nil, []byte("abc")), 70000), []byte("de"))
	for n := range whole {
		r := bytes.NewReader(whole[:n])
		got, want := string(r.Text(3)), ""
		left := n
		if n >= 4 {
			want, left = "abc", n-4
		}
		number := r.Number(70000)
		if n >= 7 && number == 70000 {
			left -= 3
			number = 0
		}
		if last := r.Text(2); got != want || number != 0 || len(last) != 0 {
			t.Errorf("%d bytes: %q, %d, %q", n, got, number, last)
		}
		at(t, "cut off", r, left, api.ErrForm)
	}
}
