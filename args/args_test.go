package args

import (
	"bytes"
	"fmt"
	"math"
	"slices"
	"strings"
	"testing"

	"rondel/api"
)

// letters are those of the chapter.
const letters = "iusrb"

// named types are none of a letter's, though what they are made of is.
type (
	otherInt   int
	otherText  string
	otherRect  api.Rect
	otherBytes []byte
)

// body is n bytes, none of which is like its neighbours.
func body(n int) []byte {
	b := make([]byte, n)
	for i := range b {
		b[i] = byte(i*7 + n)
	}
	return b
}

// isForm is the chapter's words.
func isForm(f string) bool {
	for i := range len(f) {
		if i == 8 || !slices.Contains([]byte(letters), f[i]) || f[i] == 'b' && i < len(f)-1 {
			return false
		}
	}
	return true
}

// isInt, isUint: the chapter's words.
func isInt(n int) bool  { return n >= -2147483648 && n <= 2147483647 }
func isUint(n int) bool { return n >= 0 && n <= 4294967295 }

// mayBe is the chapter's words.
func mayBe(letter byte, v any) bool {
	switch letter {
	case 'i':
		n, ok := v.(int)
		return ok && isInt(n)
	case 'u':
		n, ok := v.(int)
		return ok && isUint(n)
	case 's':
		s, ok := v.(string)
		return ok && len(s) <= 255
	case 'r':
		r, ok := v.(api.Rect)
		return ok && isInt(r.X0) && isInt(r.Y0) && isInt(r.X1) && isInt(r.Y1)
	}
	b, ok := v.([]byte)
	return ok && len(b) <= 4096
}

// four is the chapter's words.
func four(n int) []byte {
	if n < 0 {
		n += 4294967296
	}
	return []byte{byte(n / 16777216), byte(n / 65536 % 256), byte(n / 256 % 256), byte(n % 256)}
}

// bytesOf is the bytes of arguments that may be.
func bytesOf(l []any) []byte {
	var b []byte
	for _, v := range l {
		switch x := v.(type) {
		case int:
			b = append(b, four(x)...)
		case string:
			b = append(b, byte(len(x)))
			b = append(b, x...)
		case api.Rect:
			b = slices.Concat(b, four(x.X0), four(x.Y0), four(x.X1), four(x.Y1))
		case []byte:
			b = append(b, x...)
		}
	}
	return b
}

// packed is what the chapter tells of Pack.
func packed(f string, l []any) ([]byte, api.Errno) {
	if !isForm(f) || len(f) != len(l) {
		return nil, api.ErrArg
	}
	for i, v := range l {
		if !mayBe(f[i], v) {
			return nil, api.ErrArg
		}
	}
	b := bytesOf(l)
	if len(b) > 4096 {
		return nil, api.ErrFull
	}
	return b, api.OK
}

// source is bytes that are taken from one by one; it is short, if more were asked for than there were.
type source struct {
	b     []byte
	short bool
}

func (s *source) byte() int {
	if len(s.b) == 0 {
		s.short = true
		return 0
	}
	x := s.b[0]
	s.b = s.b[1:]
	return int(x)
}

func (s *source) uint() int {
	n := 0
	for range 4 {
		n = n*256 + s.byte()
	}
	return n
}

func (s *source) int() int {
	n := s.uint()
	if n > 2147483647 {
		n -= 4294967296
	}
	return n
}

func (s *source) text() string {
	var b []byte
	for n := s.byte(); n > 0 && !s.short; n-- {
		b = append(b, byte(s.byte()))
	}
	return string(b)
}

// unpacked is what the chapter tells of Unpack.
func unpacked(f string, b []byte) ([]any, api.Errno) {
	if !isForm(f) {
		return nil, api.ErrArg
	}
	s := source{b: b}
	var l []any
	for i := range len(f) {
		switch f[i] {
		case 'i':
			l = append(l, s.int())
		case 'u':
			l = append(l, s.uint())
		case 's':
			l = append(l, s.text())
		case 'r':
			x0, y0, x1, y1 := s.int(), s.int(), s.int(), s.int()
			l = append(l, api.Rect{X0: x0, Y0: y0, X1: x1, Y1: y1})
		case 'b':
			l = append(l, slices.Clone(s.b))
			s.b = nil
		}
		if s.short {
			return nil, api.ErrShort
		}
	}
	if len(s.b) > 0 {
		return nil, api.ErrForm
	}
	return l, api.OK
}

// equal tells whether two arguments are the same, and of one type.
func equal(a, b any) bool {
	x, isBytes := a.([]byte)
	y, areBytes := b.([]byte)
	if isBytes || areBytes {
		return isBytes && areBytes && bytes.Equal(x, y)
	}
	return a == b
}

func equalAll(a, b []any) bool { return slices.EqualFunc(a, b, equal) }

// brief is how a value looks, or how it begins to.
func brief(v any) string { return fmt.Sprintf("%.100s", fmt.Sprintf("%v", v)) }

// checkPack holds Pack against the chapter's words.
func checkPack(t *testing.T, f string, l ...any) {
	t.Helper()
	want, wrong := packed(f, l)
	if b, err := Pack(f, l...); err != wrong || !bytes.Equal(b, want) {
		t.Fatalf("Pack(%q, %s): %s, %v, not %s, %v", f, brief(l), brief(b), err, brief(want), wrong)
	}
}

// checkUnpack holds Unpack against the chapter's words.
func checkUnpack(t *testing.T, f string, b []byte) {
	t.Helper()
	want, wrong := unpacked(f, b)
	if l, err := Unpack(f, b); err != wrong || !equalAll(l, want) {
		t.Fatalf("Unpack(%q, %s): %s, %v, not %s, %v", f, brief(b), brief(l), err, brief(want), wrong)
	}
}

// dice is a row of numbers that is the same each time.
type dice uint64

func (d *dice) roll(n int) int {
	*d = *d*6364136223846793005 + 1442695040888963407
	return int(uint64(*d) >> 33 % uint64(n))
}

// number is one of i or u, round their bounds now and then.
func (d *dice) number(least, greatest int) int {
	switch d.roll(4) {
	case 0:
		return least + d.roll(3)
	case 1:
		return greatest - d.roll(3)
	case 2:
		return max(d.roll(600)-300, least)
	}
	return least + d.roll(1<<31)*2 + d.roll(2)
}

func (d *dice) bytes(n int) []byte {
	b := make([]byte, n)
	for i := range b {
		b[i] = byte(d.roll(256))
	}
	return b
}

// argument is one of the letter that may be.
func (d *dice) argument(letter byte) any {
	word := func() int { return d.number(math.MinInt32, math.MaxInt32) }
	switch letter {
	case 'i':
		return word()
	case 'u':
		return d.number(0, math.MaxUint32)
	case 's':
		return string(d.bytes([]int{d.roll(10), d.roll(256), 255 - d.roll(2)}[d.roll(3)]))
	case 'r':
		return api.Rect{X0: word(), Y0: word(), X1: word(), Y1: word()}
	}
	return d.bytes([]int{d.roll(10), d.roll(4097), 4096 - d.roll(130)}[d.roll(3)])
}

// form is one that may be.
func (d *dice) form() string {
	var f []byte
	for range d.roll(9) {
		f = append(f, letters[d.roll(4)])
	}
	if len(f) > 0 && d.roll(3) == 0 {
		f[len(f)-1] = 'b'
	}
	return string(f)
}

// of is arguments of a form.
func (d *dice) of(f string) []any {
	var l []any
	for i := range len(f) {
		l = append(l, d.argument(f[i]))
	}
	return l
}

// short is all forms of up to n letters.
func short(n int) []string {
	all := []string{""}
	for at := 0; n > 0; n-- {
		for end := len(all); at < end; at++ {
			for i := range len(letters) {
				all = append(all, all[at]+letters[i:i+1])
			}
		}
	}
	return slices.DeleteFunc(all, func(f string) bool { return !isForm(f) })
}

// noForms are texts that are none.
func noForms() []string {
	return []string{
		"x", "I", "U", "S", "R", "B", " ", "i ", " i", "i,u", "ix", "xi", "ixi", "1", "\x00", "i\x00", "-", "*",
		"é", "ié", "日", "\xff", "i\xff", "\xe6i", "\xe9", "t", "j", "h", "v", "q", "a", "c",
		"bi", "bu", "bs", "br", "bb", "ibi", "iibb", "biiiiiii", "iiiibiii", "bbbbbbbb",
		"iiiiiiiii", "uuuuuuuuu", "sssssssss", "rrrrrrrrr", "iiiiiiiib", "iusriusri", "iusriusrb", strings.Repeat("i", 16),
		strings.Repeat("i", 256), strings.Repeat("u", 264), strings.Repeat("s", 1<<16), strings.Repeat("日", 8),
	}
}

// odds are values that are of no letter.
func odds() []any {
	n, s, r, b := 1, "a", api.Rect{X1: 1, Y1: 1}, []byte{1}
	var none *int
	var noError error
	return []any{
		nil, noError, none, &n, &s, &r, &b,
		int8(1), int16(1), int32(1), int64(1), uint(1), uint8(1), uint16(1), uint32(1), uint64(1), uintptr(1), 'a',
		1.0, float32(1), complex(1, 0), true, false,
		otherInt(1), otherText("a"), otherRect(r), otherBytes{1}, api.OK, api.ErrArg, api.Color(1), api.Point{X: 1, Y: 1},
		api.Message{Body: b}, struct{ X0, Y0, X1, Y1 int }{0, 0, 1, 1}, struct{}{},
		[]int{1}, []string{"a"}, []rune("a"), []int8{1}, []any{1}, []any{}, [1]byte{1}, [0]byte{}, [][]byte{{1}}, []api.Rect{r}, [4]int{0, 0, 1, 1},
		map[string]int{"a": 1}, map[any]any(nil), make(chan int), func() {}, (func())(nil),
	}
}

// P8.1

func TestFormExamples(t *testing.T) {
	for _, f := range []string{
		"", "i", "u", "s", "r", "b", "ii", "uu", "rb", "sb", "sss", "rus", "iusrb", "iusriusr", "iusriusb",
		"iiiiiiii", "uuuuuuuu", "ssssssss", "rrrrrrrr", "iiiiiiib", "rrrrrrrb",
	} {
		if !Form(f) {
			t.Errorf("%q is a form", f)
		}
	}
	for _, f := range noForms() {
		if Form(f) {
			t.Errorf("%q is none", f)
		}
	}
}

// TestFormOfEach looks at all texts of a byte and of two, and at each place for b, or for a byte that is no letter, in texts of each length.
func TestFormOfEach(t *testing.T) {
	check := func(f string) {
		if got := Form(f); got != isForm(f) {
			t.Errorf("%q: %v", f, got)
		}
	}
	for a := range 256 {
		check(string([]byte{byte(a)}))
		for b := range 256 {
			check(string([]byte{byte(a), byte(b)}))
		}
	}
	for n := range 20 {
		for i := range len(letters) {
			f := bytes.Repeat([]byte{letters[i]}, n)
			check(string(f))
			for at := range n {
				for _, x := range []byte("iusrbx \x00\xff") {
					g := slices.Clone(f)
					g[at] = x
					check(string(g))
				}
			}
		}
	}
}

func TestPackExamples(t *testing.T) {
	for _, x := range []struct {
		f    string
		l    []any
		want []byte
	}{
		{"is", []any{-1, "a"}, []byte{255, 255, 255, 255, 1, 97}},
		{"", nil, nil},
		{"", []any{}, nil},
		{"i", []any{0}, []byte{0, 0, 0, 0}},
		{"i", []any{0x01020304}, []byte{1, 2, 3, 4}},
		{"i", []any{-2}, []byte{255, 255, 255, 254}},
		{"i", []any{1<<31 - 1}, []byte{127, 255, 255, 255}},
		{"i", []any{-1 << 31}, []byte{128, 0, 0, 0}},
		{"u", []any{0}, []byte{0, 0, 0, 0}},
		{"u", []any{0x81020304}, []byte{0x81, 2, 3, 4}},
		{"u", []any{1<<32 - 1}, []byte{255, 255, 255, 255}},
		{"s", []any{""}, []byte{0}},
		{"s", []any{"日"}, []byte{3, 0xe6, 0x97, 0xa5}},
		{"s", []any{"\x00\xff"}, []byte{2, 0, 255}},
		{"r", []any{api.Rect{}}, make([]byte, 16)},
		{"r", []any{api.Rect{X0: 1, Y0: 2, X1: 3, Y1: 4}}, []byte{0, 0, 0, 1, 0, 0, 0, 2, 0, 0, 0, 3, 0, 0, 0, 4}},
		{"r", []any{api.Rect{X0: 4, Y0: 3, X1: -1, Y1: -2}}, []byte{0, 0, 0, 4, 0, 0, 0, 3, 255, 255, 255, 255, 255, 255, 255, 254}},
		{"b", []any{[]byte(nil)}, nil},
		{"b", []any{[]byte{}}, nil},
		{"b", []any{[]byte{9, 8, 7}}, []byte{9, 8, 7}},
		{"usb", []any{7, "ab", []byte{1, 2}}, []byte{0, 0, 0, 7, 2, 97, 98, 1, 2}},
		{"ssss", []any{"", "a", "", "bc"}, []byte{0, 1, 97, 0, 2, 98, 99}},
	} {
		if b, err := Pack(x.f, x.l...); err != api.OK || !bytes.Equal(b, x.want) {
			t.Errorf("Pack(%q, %v): %v, %v", x.f, x.l, b, err)
		}
		if l, err := Unpack(x.f, x.want); err != api.OK || !equalAll(l, x.l) {
			t.Errorf("Unpack(%q, %v): %v, %v", x.f, x.want, l, err)
		}
	}
}

// ends are numbers at the bounds of i and u, beyond them, and such as wrap round into them.
func ends() []int {
	l := []int{math.MinInt, math.MinInt + 1, math.MaxInt, math.MaxInt - 1}
	for _, n := range []int{0, 1 << 7, 1 << 8, 1 << 15, 1 << 16, 1 << 20, 1 << 24, 1 << 31, 1 << 32, 1 << 33, 3 << 31, 1 << 40, 1 << 48, 1 << 62} {
		l = append(l, n-1, n, n+1, -n-1, -n, -n+1)
	}
	return l
}

func TestPackNumbers(t *testing.T) {
	for _, n := range ends() {
		checkPack(t, "i", n)
		checkPack(t, "u", n)
		checkPack(t, "iu", 1, n)
		checkPack(t, "ui", n, 1)
		for at := range 4 {
			p := [4]int{-1, 2, -3, 4}
			p[at] = n
			checkPack(t, "r", api.Rect{X0: p[0], Y0: p[1], X1: p[2], Y1: p[3]})
		}
	}
	// What the words of the chapter say of each letter, once more, without packed.
	for _, x := range []struct {
		f    string
		n    int
		want api.Errno
	}{
		{"i", -1<<31 - 1, api.ErrArg}, {"i", -1 << 31, api.OK}, {"i", 1<<31 - 1, api.OK}, {"i", 1 << 31, api.ErrArg},
		{"i", 1<<32 - 1, api.ErrArg}, {"i", math.MinInt, api.ErrArg}, {"i", math.MaxInt, api.ErrArg},
		{"u", -1, api.ErrArg}, {"u", 0, api.OK}, {"u", 1 << 31, api.OK}, {"u", 1<<32 - 1, api.OK}, {"u", 1 << 32, api.ErrArg},
		{"u", -1 << 31, api.ErrArg}, {"u", math.MinInt, api.ErrArg}, {"u", math.MaxInt, api.ErrArg},
	} {
		if b, err := Pack(x.f, x.n); err != x.want || err != api.OK && len(b) != 0 {
			t.Errorf("Pack(%q, %d): %v, %v", x.f, x.n, b, err)
		}
	}
}

func TestPackLong(t *testing.T) {
	for _, n := range []int{0, 1, 2, 127, 128, 254, 255, 256, 257, 511, 512, 513, 4096, 1 << 16} {
		s := strings.Repeat("é", n/2) + strings.Repeat("a", n%2)
		checkPack(t, "s", s)
		checkPack(t, "ss", "", s)
		checkPack(t, "us", 1, s)
		checkPack(t, "si", s, 1)
		if _, err := Pack("s", s); (err == api.OK) != (n <= 255) || err != api.OK && err != api.ErrArg {
			t.Errorf("a text of %d bytes: %v", n, err)
		}
	}
	for _, n := range []int{0, 1, 255, 256, 4095, 4096, 4097, 4098, 8192, 1 << 16} {
		checkPack(t, "b", body(n))
		checkPack(t, "sb", "", body(n))
		if _, err := Pack("b", body(n)); (err == api.OK) != (n <= 4096) || err != api.OK && err != api.ErrArg {
			t.Errorf("%d bytes: %v", n, err)
		}
	}
}

// TestPackFull packs bytes behind arguments of each length, round 4096 bytes in all.
func TestPackFull(t *testing.T) {
	many := strings.Repeat("a", 255)
	for _, x := range []struct {
		f    string
		l    []any
		size int
	}{
		{"", nil, 0},
		{"s", []any{""}, 1},
		{"i", []any{-1}, 4},
		{"u", []any{1}, 4},
		{"r", []any{api.Rect{}}, 16},
		{"s", []any{many}, 256},
		{"rrrrrrr", []any{api.Rect{}, api.Rect{}, api.Rect{}, api.Rect{}, api.Rect{}, api.Rect{}, api.Rect{}}, 112},
		{"sssssss", []any{many, many, many, many, many, many, many}, 1792},
	} {
		left := 4096 - x.size
		for _, n := range []int{0, 1, left - 2, left - 1, left, left + 1, left + 2, 4094, 4095, 4096, 4097, 4098} {
			want := api.OK
			switch {
			case n > 4096:
				want = api.ErrArg
			case x.size+n > 4096:
				want = api.ErrFull
			}
			l := append(slices.Clone(x.l), body(n))
			b, err := Pack(x.f+"b", l...)
			if err != want || err == api.OK && !bytes.Equal(b, bytesOf(l)) || err != api.OK && len(b) != 0 {
				t.Errorf("%q and %d bytes: %d bytes, %v", x.f, n, len(b), err)
			}
		}
	}
}

func TestPackOtherTypes(t *testing.T) {
	of := map[byte]any{'i': 1, 'u': 1, 's': "a", 'r': api.Rect{X1: 1, Y1: 1}, 'b': []byte{1}}
	for i := range len(letters) {
		letter := letters[i : i+1]
		l := odds()
		for other, v := range of {
			if mayBe(letters[i], v) != (letters[i] == other || strings.ContainsAny(letter, "iu") && (other == 'i' || other == 'u')) {
				t.Fatalf("%q, %q", letter, other)
			}
			if !mayBe(letters[i], v) {
				l = append(l, v)
			}
		}
		for _, v := range l {
			if b, err := Pack(letter, v); err != api.ErrArg || len(b) != 0 {
				t.Errorf("Pack(%q, %T): %v, %v", letter, v, b, err)
			}
			if b, err := Pack("is"+letter, 1, "a", v); err != api.ErrArg || len(b) != 0 {
				t.Errorf("Pack(%q, 1, a, %T): %v, %v", "is"+letter, v, b, err)
			}
			if b, err := Pack("iiib", 1, v, 1, []byte{1}); letters[i] == 'i' && (err != api.ErrArg || len(b) != 0) {
				t.Errorf("Pack(iiib, 1, %T, 1, b): %v, %v", v, b, err)
			}
		}
	}
}

func TestPackCount(t *testing.T) {
	d := dice(81)
	for _, f := range append(short(3), "iiiiiiii", "iusriusb") {
		l := d.of(f)
		for n := range len(l) {
			if b, err := Pack(f, l[:n]...); err != api.ErrArg || len(b) != 0 {
				t.Fatalf("Pack(%q, %d): %s, %v", f, n, brief(b), err)
			}
		}
		for _, more := range []any{1, "", api.Rect{}, []byte{}, nil} {
			for _, n := range []int{1, 2, 256} {
				if b, err := Pack(f, append(slices.Clone(l), slices.Repeat([]any{more}, n)...)...); err != api.ErrArg || len(b) != 0 {
					t.Fatalf("Pack(%q, %d more): %s, %v", f, n, brief(b), err)
				}
			}
		}
	}
	if b, err := Pack("i"); err != api.ErrArg || len(b) != 0 {
		t.Error(b, err)
	}
	if b, err := Pack("", nil); err != api.ErrArg || len(b) != 0 {
		t.Error(b, err)
	}
}

// TestPackNoForm packs arguments that are right for each letter.
func TestPackNoForm(t *testing.T) {
	d := dice(82)
	for _, f := range noForms() {
		var l []any
		for i := range min(len(f), 300) {
			l = append(l, d.argument(f[i]))
		}
		for _, given := range [][]any{l, nil, {1}} {
			if b, err := Pack(f, given...); err != api.ErrArg || len(b) != 0 {
				t.Errorf("Pack(%.20q): %s, %v", f, brief(b), err)
			}
		}
	}
}

// TestPackRow looks which error is told of several: that of what may not be, wherever it stands.
func TestPackRow(t *testing.T) {
	many, long := strings.Repeat("a", 255), body(4096)
	for i, x := range []struct {
		f    string
		l    []any
		want api.Errno
	}{
		{"ib", []any{1, long}, api.ErrFull},
		{"ib", []any{1 << 31, long}, api.ErrArg},
		{"ib", []any{1, body(4097)}, api.ErrArg},
		{"ib", []any{"a", long}, api.ErrArg},
		{"ibi", []any{1, long, 1}, api.ErrArg},
		{"bi", []any{long, 1}, api.ErrArg},
		{"ib", []any{1, long, 1}, api.ErrArg},
		{"ib", []any{long}, api.ErrArg},
		{"sb", []any{many, long}, api.ErrFull},
		{"sb", []any{many + "a", long}, api.ErrArg},
		{"bb", []any{long, long}, api.ErrArg},
		{"iiiiiiiib", []any{1, 1, 1, 1, 1, 1, 1, 1, long}, api.ErrArg},
	} {
		if b, err := Pack(x.f, x.l...); err != x.want || len(b) != 0 {
			t.Errorf("%d: %d bytes, %v", i, len(b), err)
		}
	}
}

func TestPackOfMany(t *testing.T) {
	d := dice(83)
	for range 5000 {
		f := d.form()
		l := d.of(f)
		checkPack(t, f, l...)
		if len(l) > 0 {
			// One of them of another letter, or odd.
			at := d.roll(len(l))
			l[at] = d.argument(letters[d.roll(5)])
			checkPack(t, f, l...)
			l[at] = odds()[d.roll(len(odds()))]
			checkPack(t, f, l...)
		}
	}
}

// P8.2

func TestUnpackExamples(t *testing.T) {
	for _, x := range []struct {
		f    string
		b    []byte
		want []any
		err  api.Errno
	}{
		{"is", []byte{255, 255, 255, 255, 1, 97}, []any{-1, "a"}, api.OK},
		{"", nil, nil, api.OK},
		{"", []byte{}, nil, api.OK},
		{"", []byte{0}, nil, api.ErrForm},
		{"u", []byte{255, 255, 255, 255}, []any{1<<32 - 1}, api.OK},
		{"i", []byte{128, 0, 0, 0}, []any{-1 << 31}, api.OK},
		{"u", []byte{128, 0, 0, 0}, []any{1 << 31}, api.OK},
		{"i", []byte{127, 255, 255, 255}, []any{1<<31 - 1}, api.OK},
		{"i", nil, nil, api.ErrShort},
		{"i", []byte{1, 2, 3}, nil, api.ErrShort},
		{"i", []byte{1, 2, 3, 4, 5}, nil, api.ErrForm},
		{"iu", []byte{1, 2, 3, 4, 5}, nil, api.ErrShort},
		{"s", nil, nil, api.ErrShort},
		{"s", []byte{0}, []any{""}, api.OK},
		{"s", []byte{1}, nil, api.ErrShort},
		{"s", []byte{2, 97}, nil, api.ErrShort},
		{"s", []byte{1, 97, 98}, nil, api.ErrForm},
		{"s", []byte{0, 0}, nil, api.ErrForm},
		{"ss", []byte{0}, nil, api.ErrShort},
		{"ss", []byte{1, 97, 0}, []any{"a", ""}, api.OK},
		{"s", []byte{2, 0xff, 0}, []any{"\xff\x00"}, api.OK},
		{"s", append([]byte{255}, body(255)...), []any{string(body(255))}, api.OK},
		{"s", append([]byte{255}, body(254)...), nil, api.ErrShort},
		{"s", append([]byte{255}, body(256)...), nil, api.ErrForm},
		{"r", make([]byte, 15), nil, api.ErrShort},
		{"r", make([]byte, 16), []any{api.Rect{}}, api.OK},
		{"r", make([]byte, 17), nil, api.ErrForm},
		{"r", []byte{0, 0, 0, 4, 0, 0, 0, 3, 255, 255, 255, 255, 128, 0, 0, 0}, []any{api.Rect{X0: 4, Y0: 3, X1: -1, Y1: -1 << 31}}, api.OK},
		{"b", nil, []any{[]byte{}}, api.OK},
		{"b", []byte{}, []any{[]byte{}}, api.OK},
		{"b", []byte{1, 2}, []any{[]byte{1, 2}}, api.OK},
		{"ub", []byte{0, 0, 0, 1}, []any{1, []byte{}}, api.OK},
		{"ub", []byte{0, 0, 0}, nil, api.ErrShort},
		{"sb", []byte{1, 97, 98, 99}, []any{"a", []byte{98, 99}}, api.OK},
		{"b", body(4096), []any{body(4096)}, api.OK},
		{"b", body(4097), []any{body(4097)}, api.OK},
		{"ib", slices.Concat(four(-7), body(70000)), []any{-7, body(70000)}, api.OK},
		{"x", nil, nil, api.ErrArg},
		{"ix", nil, nil, api.ErrArg},
		{"ix", []byte{1, 2, 3}, nil, api.ErrArg},
		{"ix", []byte{1, 2, 3, 4, 5}, nil, api.ErrArg},
		{"bi", []byte{1, 2, 3, 4}, nil, api.ErrArg},
		{"bb", nil, nil, api.ErrArg},
		{"iiiiiiiii", make([]byte, 36), nil, api.ErrArg},
		{"uuuuuuuu", make([]byte, 32), []any{0, 0, 0, 0, 0, 0, 0, 0}, api.OK},
	} {
		if l, err := Unpack(x.f, x.b); err != x.err || !equalAll(l, x.want) {
			t.Errorf("Unpack(%q, %s): %s, %v", x.f, brief(x.b), brief(l), err)
		}
	}
}

func TestUnpackNoForm(t *testing.T) {
	for _, f := range noForms() {
		for _, n := range []int{0, 1, 4, 5, 36, 300} {
			if l, err := Unpack(f, make([]byte, n)); err != api.ErrArg || len(l) != 0 {
				t.Errorf("Unpack(%.20q, %d bytes): %s, %v", f, n, brief(l), err)
			}
		}
	}
}

// TestUnpackEachEnd cuts the bytes of arguments at each place, and leaves some behind them.
func TestUnpackEachEnd(t *testing.T) {
	d := dice(84)
	for _, f := range append(short(3), "iiiiiiii", "uuuuuuuu", "ssssssss", "rrrrrrrr", "iusriusr", "iusriusb", "sissiusb") {
		head := strings.TrimSuffix(f, "b")
		l := d.of(head)
		b := bytesOf(l)
		for n := range b {
			if got, err := Unpack(f, b[:n]); err != api.ErrShort || len(got) != 0 {
				t.Fatalf("Unpack(%q, %d of %s): %s, %v", f, n, brief(b), brief(got), err)
			}
		}
		for _, n := range []int{0, 1, 2, 4, 16, 255, 4096, 4097, 10000} {
			all := slices.Concat(b, body(n))
			got, err := Unpack(f, all)
			switch {
			case f != head:
				if err != api.OK || !equalAll(got, append(slices.Clone(l), body(n))) {
					t.Fatalf("Unpack(%q, %d bytes): %s, %v", f, len(all), brief(got), err)
				}
			case n == 0:
				if err != api.OK || !equalAll(got, l) {
					t.Fatalf("Unpack(%q, %s): %s, %v", f, brief(b), brief(got), err)
				}
			case err != api.ErrForm || len(got) != 0:
				t.Fatalf("Unpack(%q, %d bytes left): %s, %v", f, n, brief(got), err)
			}
		}
	}
}

func TestUnpackOfMany(t *testing.T) {
	d := dice(85)
	for range 20000 {
		f := d.form()
		b := bytesOf(d.of(f))
		switch d.roll(4) {
		case 0:
			b = b[:d.roll(len(b)+1)]
		case 1:
			b = append(b, d.bytes(d.roll(20))...)
		case 2:
			b = d.bytes(d.roll(40))
		}
		if len(b) > 0 && d.roll(2) == 0 {
			b[d.roll(len(b))] = byte(d.roll(256))
		}
		checkUnpack(t, f, b)
		checkUnpack(t, d.form(), b)
	}
}

// TestUnpackEachLength unpacks texts of each length that one byte tells, of bytes that are too few, just so many, and more.
func TestUnpackEachLength(t *testing.T) {
	for n := range 256 {
		b := append([]byte{byte(n)}, body(300)...)
		for have := range b {
			checkUnpack(t, "s", b[:have])
		}
		checkUnpack(t, "sb", b)
		checkUnpack(t, "ss", b)
	}
}

func TestSizeExamples(t *testing.T) {
	for f, want := range map[string]int{
		"": 0, "i": 4, "u": 4, "r": 16, "ii": 8, "uu": 8, "iu": 8, "ri": 20, "ir": 20, "rr": 32, "iur": 24,
		"iiiiiiii": 32, "uuuuuuuu": 32, "rrrrrrrr": 128, "iiiirrrr": 80,
	} {
		if n, ok := Size(f); n != want || !ok {
			t.Errorf("%q: %d, %v", f, n, ok)
		}
	}
	for _, f := range append(noForms(), "s", "b", "si", "is", "ib", "rb", "sb", "iiiiiiis", "siiiiiii", "iiiiiiib") {
		if n, ok := Size(f); n != 0 || ok {
			t.Errorf("%.20q: %d, %v", f, n, ok)
		}
	}
}

// TestSizeOfEach holds Size against the lengths of what is packed: of a form without s and b all have as many bytes.
func TestSizeOfEach(t *testing.T) {
	d := dice(86)
	for _, f := range append(short(4), "iusriusr", "iuriuriu", "rrrrrrri") {
		n, ok := Size(f)
		if ok == strings.ContainsAny(f, "sb") || !ok && n != 0 {
			t.Errorf("%q: %d, %v", f, n, ok)
		}
		for range 5 {
			if b := bytesOf(d.of(f)); ok && len(b) != n {
				t.Errorf("%q: %d, but %d", f, n, len(b))
			}
		}
	}
}

func TestTold(t *testing.T) {
	r := api.Rect{X0: 9, Y0: -1, X1: 2, Y1: math.MaxInt}
	for _, v := range append(odds(), 0, 1, -1, math.MinInt, math.MaxInt, "", "a", "\xff", strings.Repeat("a", 300),
		api.Rect{}, r, []byte(nil), []byte{}, []byte{1, 2}, body(5000)) {
		n, isInt := Int(v)
		s, isText := Text(v)
		q, isRect := Rect(v)
		b, isBytes := Bytes(v)
		var wantInt, wantText, wantRect, wantBytes bool
		switch x := v.(type) {
		case int:
			wantInt = n == x
		case string:
			wantText = s == x
		case api.Rect:
			wantRect = q == x
		case []byte:
			wantBytes = bytes.Equal(b, x)
		}
		if isInt != wantInt || !isInt && n != 0 {
			t.Errorf("Int(%T %s): %s, %v", v, brief(v), brief(n), isInt)
		}
		if isText != wantText || !isText && s != "" {
			t.Errorf("Text(%T %s): %s, %v", v, brief(v), brief(s), isText)
		}
		if isRect != wantRect || !isRect && q != (api.Rect{}) {
			t.Errorf("Rect(%T %s): %s, %v", v, brief(v), brief(q), isRect)
		}
		if isBytes != wantBytes || !isBytes && len(b) != 0 {
			t.Errorf("Bytes(%T %s): %s, %v", v, brief(v), brief(b), isBytes)
		}
	}
}

// P8.3

func TestPackedIsUnpacked(t *testing.T) {
	d := dice(87)
	for range 20000 {
		f := d.form()
		l := d.of(f)
		b, err := Pack(f, l...)
		if err == api.ErrFull && len(bytesOf(l)) > 4096 {
			continue
		}
		if err != api.OK {
			t.Fatalf("Pack(%q, %s): %v", f, brief(l), err)
		}
		if got, err := Unpack(f, b); err != api.OK || !equalAll(got, l) {
			t.Fatalf("%q, %s: %s, %v", f, brief(l), brief(got), err)
		}
	}
}

func TestUnpackedIsPacked(t *testing.T) {
	d := dice(88)
	right := 0
	for range 40000 {
		f := d.form()
		b := d.bytes(d.roll(60))
		if d.roll(2) == 0 {
			b = bytesOf(d.of(f))
		}
		for range d.roll(3) {
			if len(b) > 0 {
				b[d.roll(len(b))] = byte(d.roll(5))
			}
		}
		l, err := Unpack(f, b)
		if err != api.OK || len(b) > 4096 {
			continue
		}
		right++
		if got, err := Pack(f, l...); err != api.OK || !bytes.Equal(got, b) {
			t.Fatalf("%q, %s: %s, %s, %v", f, brief(b), brief(l), brief(got), err)
		}
	}
	if right < 10000 {
		t.Error(right)
	}
}

// TestUnpackedOfTooMany packs what is more than Pack may tell, though Unpack tells it.
func TestUnpackedOfTooMany(t *testing.T) {
	for f, want := range map[string]api.Errno{"b": api.ErrArg, "ub": api.ErrFull, "sb": api.ErrFull} {
		l, err := Unpack(f, make([]byte, 4097))
		if err != api.OK {
			t.Fatal(f, err)
		}
		if b, err := Pack(f, l...); err != want || len(b) != 0 {
			t.Errorf("%q: %d bytes, %v", f, len(b), err)
		}
	}
}

// R4, R5

// TestHandedIn looks whether what is handed in stays as it is, its spare room too, and whether it is shared.
func TestHandedIn(t *testing.T) {
	room := bytes.Repeat([]byte{0xee}, 40)
	given := append(room[:0], 0, 0, 0, 1, 1, 97, 5, 6, 7)
	before := slices.Clone(room)
	check := func(name string) {
		t.Helper()
		if !slices.Equal(room, before) {
			t.Fatalf("%s changed what was handed in: %v", name, room)
		}
	}
	spoil := func(b []byte) {
		b = b[:cap(b)]
		for i := range b {
			b[i] = 77
		}
	}
	l, _ := Unpack("usb", given)
	check("Unpack")
	b, _ := Bytes(l[2])
	spoil(l[2].([]byte))
	check("what Unpack answered")
	if !slices.Equal(b, []byte{5, 6, 7}) {
		t.Error("Bytes answers what it was handed in", b)
	}
	for _, f := range []string{"b", "sb"} {
		args := append(make([]any, 0, 8), "", given)[2-len(f):]
		kept := slices.Clone(args[:cap(args)])
		b, _ = Pack(f, args...)
		spoil(b)
		check("Pack")
		if !equalAll(args[:cap(args)], kept) {
			t.Error("Pack changed its list", args[:cap(args)])
		}
	}
	b, _ = Bytes(given)
	spoil(b)
	check("Bytes")
}

// TestKept looks whether an answer changes with what was handed in.
func TestKept(t *testing.T) {
	given := []byte{3, 97, 98, 99, 5, 6}
	l, _ := Unpack("sb", given)
	p, _ := Pack("b", given)
	b, _ := Bytes(given)
	clear(given)
	if !equalAll(l, []any{"abc", []byte{5, 6}}) || !slices.Equal(p, []byte{3, 97, 98, 99, 5, 6}) || !slices.Equal(b, p) {
		t.Error(l, p, b)
	}
}

// TestNilAndEmpty: both are one.
func TestNilAndEmpty(t *testing.T) {
	for _, b := range [][]byte{nil, {}, make([]byte, 0, 9)} {
		for _, f := range []string{"", "b"} {
			l, err := Unpack(f, b)
			if err != api.OK || len(l) != len(f) {
				t.Errorf("Unpack(%q): %v, %v", f, l, err)
			}
		}
		if got, ok := Bytes(b); !ok || len(got) != 0 {
			t.Error(got, ok)
		}
		if got, err := Pack("ib", 1, b); err != api.OK || !slices.Equal(got, []byte{0, 0, 0, 1}) {
			t.Error(got, err)
		}
	}
	for _, l := range [][]any{nil, {}} {
		if b, err := Pack("", l...); err != api.OK || len(b) != 0 {
			t.Error(b, err)
		}
	}
}
