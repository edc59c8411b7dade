package color

import (
	"math"
	"strconv"
	"strings"
	"testing"

	"rondel/api"
)

// odd is numbers that are parts, at their ends and between, and such that are none.
func odd() []int {
	return []int{math.MinInt, math.MinInt + 255, -1 << 32, -256, -255, -1, 0, 1, 2, 127, 128, 254, 255, 256, 257, 383, 1 << 32, 1<<32 + 7, math.MaxInt - 255, math.MaxInt}
}

// nearest is the nearer one of both ends, of what is no part.
func nearest(n int) int {
	if n < 0 {
		return 0
	}
	if n > 255 {
		return 255
	}
	return n
}

// of is the color of four parts, by its bits.
func of(p [4]int) api.Color {
	return api.Color(p[0]*(1<<24) + p[1]*(1<<16) + p[2]*(1<<8) + p[3])
}

// split is a color's four parts, by its bits.
func split(c api.Color) [4]int {
	n := int(c)
	return [4]int{n / (1 << 24), n / (1 << 16) % 256, n / (1 << 8) % 256, n % 256}
}

// partOf is the greatest number of which 255 are no more than p times q, and 127.
func partOf(p, q int) int {
	n := 0
	for (n+1)*255 <= p*q+127 {
		n++
	}
	return n
}

// partsOfParts is partOf of all parts.
func partsOfParts() *[256][256]int {
	var t [256][256]int
	for p := range 256 {
		for q := range 256 {
			t[p][q] = partOf(p, q)
		}
	}
	return &t
}

// mayBe is the chapter's words: none of red, green and blue is above alpha.
func mayBe(c api.Color) bool {
	p := split(c)
	return !(p[1] > p[0]) && !(p[2] > p[0]) && !(p[3] > p[0])
}

// dice is a row of numbers that is the same each time.
type dice uint64

func (d *dice) roll() uint32 {
	*d = *d*6364136223846793005 + 1442695040888963407
	return uint32(uint64(*d) >> 32)
}

// colors is all colors of parts at the ends and between, and many others.
func colors() []api.Color {
	var l []api.Color
	ends := []int{0, 1, 127, 128, 254, 255}
	for _, a := range ends {
		for _, r := range ends {
			for _, g := range ends {
				for _, b := range ends {
					l = append(l, of([4]int{a, r, g, b}))
				}
			}
		}
	}
	d := dice(7)
	for range 500 {
		l = append(l, api.Color(d.roll()))
	}
	return l
}

// mays is those of colors that may be, and many others.
func mays() []api.Color {
	var l []api.Color
	for _, c := range colors() {
		if mayBe(c) {
			l = append(l, c)
		}
		p := split(c)
		a := p[0]
		l = append(l, of([4]int{a, min(p[1], a), min(p[2], a), min(p[3], a)}))
	}
	return l
}

// P3.1

func TestMakeAndParts(t *testing.T) {
	for i, x := range []struct {
		p    [4]int
		want api.Color
	}{
		{[4]int{0, 0, 0, 0}, 0},
		{[4]int{255, 255, 255, 255}, 0xffffffff},
		{[4]int{1, 2, 3, 4}, 0x01020304},
		{[4]int{255, 0, 0, 0}, 0xff000000},
		{[4]int{0, 255, 0, 0}, 0x00ff0000},
		{[4]int{0, 0, 255, 0}, 0x0000ff00},
		{[4]int{0, 0, 0, 255}, 0x000000ff},
		{[4]int{0x80, 0x7f, 0xfe, 0x01}, 0x807ffe01},
	} {
		if got := Make(x.p[0], x.p[1], x.p[2], x.p[3]); got != x.want {
			t.Errorf("%d: Make: %x", i, got)
		}
		if got := Parts(x.want); got != x.p {
			t.Errorf("%d: Parts: %v", i, got)
		}
	}
	for _, c := range colors() {
		p := Parts(c)
		if p != split(c) || Make(p[0], p[1], p[2], p[3]) != c {
			t.Fatalf("%x: %v", c, p)
		}
	}
}

func TestMakeOfNumbersThatAreNoParts(t *testing.T) {
	for _, a := range odd() {
		for _, r := range odd() {
			for _, g := range odd() {
				for _, b := range odd() {
					if got := Make(a, r, g, b); got != of([4]int{nearest(a), nearest(r), nearest(g), nearest(b)}) {
						t.Fatalf("Make(%d, %d, %d, %d): %x", a, r, g, b, got)
					}
				}
			}
		}
	}
}

func TestMay(t *testing.T) {
	for c, want := range map[api.Color]bool{
		0: true, 0xff000000: true, 0xffffffff: true, 0x80808080: true, 0x80800000: true, 0x01000100: true,
		1: false, 0x100: false, 0x10000: false, 0x80810000: false, 0x80008100: false, 0x80000081: false,
		0x00ffffff: false, 0xfeff0000: false, 0xfe00ff00: false, 0xfe0000ff: false, 0x80ffffff: false,
	} {
		if May(c) != want {
			t.Errorf("May(%x): %v", c, !want)
		}
	}
	for _, c := range colors() {
		if May(c) != mayBe(c) {
			t.Fatalf("May(%x): %v", c, May(c))
		}
	}
}

func TestPart(t *testing.T) {
	want := partsOfParts()
	for p := range 256 {
		for q := range 256 {
			if got := Part(p, q); got != want[p][q] {
				t.Fatalf("Part(%d, %d): %d", p, q, got)
			}
		}
	}
	for i, x := range []struct{ p, q, want int }{
		{255, 255, 255}, {255, 1, 1}, {0, 255, 0}, {255, 0, 0}, {127, 1, 0}, {128, 1, 1}, {1, 127, 0}, {1, 128, 1}, {128, 128, 64}, {127, 127, 63},
	} {
		if got := Part(x.p, x.q); got != x.want {
			t.Errorf("%d: Part(%d, %d): %d", i, x.p, x.q, got)
		}
	}
}

func TestPartOfNumbersThatAreNoParts(t *testing.T) {
	want := partsOfParts()
	for _, p := range odd() {
		for _, q := range odd() {
			if got := Part(p, q); got != want[nearest(p)][nearest(q)] {
				t.Errorf("Part(%d, %d): %d", p, q, got)
			}
		}
	}
}

func TestSolid(t *testing.T) {
	for a := range 256 {
		for _, rest := range []int{0, 1, 0x00fefefe, 0x00ffffff} {
			if c := api.Color(a<<24 + rest); Solid(c) != (a == 255) {
				t.Errorf("Solid(%x): %v", c, Solid(c))
			}
		}
	}
}

// P3.2

func TestOver(t *testing.T) {
	for i, x := range []struct{ c, d, want api.Color }{
		{0x80800000, 0xffffffff, 0xffff7f7f},
		{0, 0, 0},
		{0, 0x12345678, 0x12345678},
		{0x12121212, 0, 0x12121212},
		{0x80000000, 0x80808080, 0xc0404040},
		{0xff102030, 0xffffffff, 0xff102030},
		{0x01000000, 0xff808080, 0xff7f7f7f},
		{0x00ffffff, 0xffffffff, 0xffffffff}, // c may not be: 255 at most
		{0x10f0f0f0, 0xffffff00, 0xfffffff0},
		{0x00800000, 0x00800000, 0x00ff0000},
		{0xff000000, 0x00ffffff, 0xff000000},
	} {
		if got := Over(x.c, x.d); got != x.want {
			t.Errorf("%d: Over(%x, %x): %x", i, x.c, x.d, got)
		}
	}
}

func TestOverPartByPart(t *testing.T) {
	part, l := partsOfParts(), colors()
	for _, c := range l {
		p := split(c)
		for _, d := range l {
			q := split(d)
			var want [4]int
			for i := range want {
				want[i] = nearest(p[i] + part[q[i]][255-p[0]])
			}
			if got := Over(c, d); got != of(want) {
				t.Fatalf("Over(%x, %x): %x", c, d, got)
			}
		}
	}
}

func TestFade(t *testing.T) {
	part := partsOfParts()
	for _, c := range colors() {
		p := split(c)
		for _, alpha := range append(odd(), 3, 64, 100, 191) {
			var want [4]int
			for i := range want {
				want[i] = part[p[i]][nearest(alpha)]
			}
			if got := Fade(c, alpha); got != of(want) {
				t.Fatalf("Fade(%x, %d): %x", c, alpha, got)
			}
		}
		if Fade(c, 255) != c || Fade(c, 0) != 0 {
			t.Fatalf("%x", c)
		}
	}
	if got := Fade(0xff804001, 128); got != 0x80402001 {
		t.Errorf("%x", got)
	}
	if got := Fade(0xff804001, 127); got != 0x7f402000 {
		t.Errorf("%x", got)
	}
}

func TestPre(t *testing.T) {
	part := partsOfParts()
	for _, a := range odd() {
		for _, r := range odd() {
			for _, g := range odd() {
				for _, b := range odd() {
					n := nearest(a)
					want := of([4]int{n, part[nearest(r)][n], part[nearest(g)][n], part[nearest(b)][n]})
					if got := Pre(a, r, g, b); got != want || !mayBe(got) {
						t.Fatalf("Pre(%d, %d, %d, %d): %x", a, r, g, b, got)
					}
				}
			}
		}
	}
	for a := range 256 {
		if got := Pre(a, 255, 0, 255); got != of([4]int{a, a, 0, a}) {
			t.Errorf("Pre(%d, 255, 0, 255): %x", a, got)
		}
	}
	if got := Pre(128, 255, 128, 1); got != 0x80804001 {
		t.Errorf("%x", got)
	}
}

// P3.3

func TestShowAndParse(t *testing.T) {
	for c, s := range map[api.Color]string{
		0: "00000000", 1: "00000001", 0x10000000: "10000000", 0xffffffff: "ffffffff",
		0x01234567: "01234567", 0x89abcdef: "89abcdef", 0xfedcba98: "fedcba98", 0x000000a0: "000000a0", 0x80800000: "80800000",
	} {
		if got := Show(c); got != s {
			t.Errorf("Show(%x): %q", int(c), got)
		}
		if got, ok := Parse(s); got != c || !ok {
			t.Errorf("Parse(%q): %x %v", s, got, ok)
		}
	}
	for _, c := range colors() {
		s := strconv.FormatUint(1<<32+uint64(c), 16)[1:]
		if got := Show(c); got != s {
			t.Fatalf("Show(%x): %q", int(c), got)
		}
		if got, ok := Parse(s); got != c || !ok {
			t.Fatalf("Parse(%q): %x %v", s, got, ok)
		}
	}
}

// TestParseOfEachByteAtEachPlace puts every byte at every place of a text that is one.
func TestParseOfEachByteAtEachPlace(t *testing.T) {
	for i := range 8 {
		for b := range 256 {
			s := []byte("9a0f7e3c")
			s[i] = byte(b)
			value := strings.IndexByte("0123456789abcdef", byte(b))
			got, ok := Parse(string(s))
			if ok != (value >= 0) || !ok && got != 0 {
				t.Fatalf("Parse(%q): %x %v", s, got, ok)
			}
			if ok && int(got)/(1<<(28-4*i))%16 != value {
				t.Fatalf("Parse(%q): %x", s, got)
			}
		}
	}
}

func TestParseOfOtherTexts(t *testing.T) {
	for _, s := range []string{
		"", "0", "fffffff", "0ffffffff", "00000000f", "ffffffff0", strings.Repeat("0", 16), strings.Repeat("f", 1000),
		"FFFFFFFF", "fffffffF", "Affffffff", "0000000A", "00000C00", "0000000g", "g0000000", "0000000`", "0000000/", "0000000:", "0000000@",
		" ffffff", " fffffff", "fffffff ", " ffffffff", "ffffffff ", "ffffffff\n", "\x00fffffff",
		"+fffffff", "-fffffff", "0xffffff", "#fffffff", "#ffffff", "ff_ff_ff", "ffff.fff",
		"ffffffé", "fffffffé", "éééé", "日本ff", "0000000０", "٠٠٠٠", "٠٠٠٠٠٠٠٠",
		"fffffff\xff", "\xfffffffff", "\xc3fffffff", "fffffff\xc3", "\xff\xff\xff\xff\xff\xff\xff\xff", "\uFFFDfffff", "\uFFFDffff", "\U0001F300ffff", "ffff\U0001F300",
	} {
		if c, ok := Parse(s); c != 0 || ok {
			t.Errorf("Parse(%q): %x %v", s, c, ok)
		}
	}
}

// P3.4

func TestWhatIsMadeMayBe(t *testing.T) {
	l := mays()
	for _, c := range l {
		for alpha := -1; alpha <= 256; alpha += 7 {
			if got := Fade(c, alpha); !May(got) {
				t.Fatalf("Fade(%x, %d): %x", c, alpha, got)
			}
		}
		for i := 0; i < len(l); i += 5 {
			d := l[i]
			got := Over(c, d)
			if !May(got) {
				t.Fatalf("Over(%x, %x): %x", c, d, got)
			}
			if Solid(d) && !Solid(got) {
				t.Fatalf("Over(%x, %x), that is solid: %x", c, d, got)
			}
			if Solid(c) && got != c {
				t.Fatalf("Over(%x, that is solid, %x): %x", c, d, got)
			}
		}
	}
}

// TestOverSolidOfEachAlpha asks for each alpha, lest the one that is rounded wrong be left out.
func TestOverSolidOfEachAlpha(t *testing.T) {
	for a := range 256 {
		for _, c := range []api.Color{of([4]int{a, 0, 0, 0}), of([4]int{a, a, a / 2, 0}), of([4]int{a, a, a, a})} {
			for _, d := range []api.Color{0xff000000, 0xffffffff, 0xff804001, 0xfffe7f80} {
				if got := Over(c, d); !Solid(got) || !May(got) {
					t.Errorf("Over(%x, %x): %x", c, d, got)
				}
			}
			if got := Over(0xff010203, c); got != 0xff010203 {
				t.Errorf("over %x: %x", c, got)
			}
		}
	}
}
