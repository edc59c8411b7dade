package title

import (
	"math"
	"slices"
	"strings"
	"testing"
	"unicode/utf8"
)

// mark is how a text's U+FFFD is written, which is a sign like others.
const mark = "\xef\xbf\xbd"

// sign is what the chapter tells of a sign: its bytes, its rune, and whether it is broken.
type sign struct {
	bytes  string
	r      rune
	broken bool
}

// signsOf is a text's signs, told one by one from its bytes.
func signsOf(s string) []sign {
	var l []sign
	for len(s) > 0 {
		r, n := utf8.DecodeRuneInString(s)
		l = append(l, sign{bytes: s[:n], r: r, broken: r == 0xFFFD && n == 1})
		s = s[n:]
	}
	return l
}

// isOdd is the chapter's words.
func isOdd(r rune) bool {
	return r <= 31 || r == 127 || strings.ContainsRune("\u2028\u2029\u202a\u202b\u202c\u202d\u202e", r)
}

// widthOf is the chapter's words.
func widthOf(r rune) int {
	for _, x := range []struct {
		first, last rune
		width       int
	}{
		{0x0300, 0x036F, 0},
		{0x1100, 0x115F, 2}, {0x2E80, 0xA4CF, 2}, {0xAC00, 0xD7A3, 2}, {0xFF00, 0xFF60, 2}, {0x1F300, 0x1FAFF, 2},
	} {
		if r >= x.first && r <= x.last {
			return x.width
		}
	}
	return 1
}

func widthOfAll(l []sign) int {
	w := 0
	for _, x := range l {
		w += widthOf(x.r)
	}
	return w
}

func bytesOf(l []sign) string {
	s := ""
	for _, x := range l {
		s += x.bytes
	}
	return s
}

func mayBe(s string) bool {
	l := signsOf(s)
	return len(l) <= 64 && !slices.ContainsFunc(l, func(x sign) bool { return x.broken || isOdd(x.r) })
}

func cleanOf(s string) string {
	l := signsOf(s)
	for i, x := range l {
		if x.broken || isOdd(x.r) {
			l[i].bytes = "?"
		}
	}
	return bytesOf(l[:min(64, len(l))])
}

// cutOf looks at every beginning, the longest first.
func cutOf(s string, n int) string {
	l := signsOf(s)
	for i := len(l); i >= 0; i-- {
		if widthOfAll(l[:i]) <= n {
			return bytesOf(l[:i])
		}
	}
	return ""
}

func padOf(s string, n int) string {
	s = cutOf(s, n)
	for widthOfAll(signsOf(s)) < n {
		s += " "
	}
	return s
}

func likeOf(a, b string) bool {
	return slices.EqualFunc(signsOf(a), signsOf(b), func(x, y sign) bool {
		for _, r := range []*rune{&x.r, &y.r} {
			if i := strings.IndexRune("ABCDEFGHIJKLMNOPQRSTUVWXYZ", *r); i >= 0 {
				*r = rune("abcdefghijklmnopqrstuvwxyz"[i])
			}
		}
		return x.r == y.r
	})
}

// dice is a row of numbers that is the same each time.
type dice uint64

func (d *dice) roll(n int) int {
	*d = *d*6364136223846793005 + 1442695040888963407
	return int(uint64(*d) >> 33 % uint64(n))
}

// pieces is signs of each kind, bytes that are none, and beginnings of signs that are one only with what stands behind them.
func pieces() []string {
	return []string{
		"a", "A", "z", "Z", "@", "[", "`", "{", "?", " ", "é", "É", "~", "日", "本", "ｗ", "가", "ᄀ", "😀", "\u0301", "\u036f", "\u0300",
		mark, "\n", "\x00", "\x1f", "\x7f", "\u0080", "\u2028", "\u202e", "\u200b", "\U0010ffff", "\u212a",
		"\xff", "\x80", "\xc0", "\xc3", "\xe6", "\xe6\x97", "\xef", "\xef\xbf", "\xf0\x9f\x98", "\xed\xa0\x80", "\xf4\x90\x80\x80", "\xbd",
	}
}

// text is a text of at most n pieces.
func (d *dice) text(n int) string {
	s := ""
	for range d.roll(n + 1) {
		s += pieces()[d.roll(len(pieces()))]
	}
	return s
}

// texts is all texts of one and of two pieces, the empty one, and many longer ones, such as have about 64 signs too.
func texts() []string {
	l := []string{""}
	for _, a := range pieces() {
		l = append(l, a)
		for _, b := range pieces() {
			l = append(l, a+b)
		}
	}
	d := dice(6)
	for range 2000 {
		l = append(l, d.text(12))
	}
	for range 300 {
		l = append(l, d.text(120))
	}
	for _, p := range pieces() {
		for n := 62; n <= 66; n++ {
			l = append(l, strings.Repeat(p, n))
		}
	}
	return l
}

// titles is texts of about 64 pieces that have neither odd nor broken signs.
func titles() []string {
	var l []string
	d := dice(64)
	for n := 60; n <= 68; n++ {
		for range 20 {
			s := ""
			for utf8.RuneCountInString(s) < n {
				if p := pieces()[d.roll(len(pieces()))]; mayBe(p) {
					s += p
				}
			}
			l = append(l, s)
		}
	}
	return l
}

// P6.1

func TestMay(t *testing.T) {
	for i, x := range []struct {
		s    string
		want bool
	}{
		{"", true},
		{"a", true},
		{"a title", true},
		{"日本", true},
		{" ~", true},
		{"e\u0301", true},
		{"\u0301", true},
		{mark, true},
		{"\u0080\u009f\u00a0", true},
		{"\u200b\u2027\u202f\ufeff", true},
		{"\U0010ffff", true},
		{"\x00", false},
		{"a\tb", false},
		{"a\n", false},
		{"\x1f", false},
		{"\x7f", false},
		{"a\u2028", false},
		{"\u202eb", false},
		{"a\x80", false},
		{"\xff", false},
		{"日\xe6\x97", false},
		{"\xc0\x80", false},
		{"\xed\xa0\x80", false},
		{"\xf4\x90\x80\x80", false},
		{"\xef" + mark, false},
		{mark + "\xef\xbf", false},
		{strings.Repeat("a", 63), true},
		{strings.Repeat("a", 64), true},
		{strings.Repeat("a", 65), false},
		{strings.Repeat("😀", 64), true},
		{strings.Repeat("😀", 65), false},
		{strings.Repeat("\u0301", 64), true},
		{strings.Repeat("\u0301", 65), false},
		{strings.Repeat(mark, 64), true},
		{strings.Repeat("a", 64) + "\xff", false},
		{strings.Repeat("a", 63) + "\xff", false},
		{strings.Repeat("a", 63) + "\n", false},
	} {
		if got := May(x.s); got != x.want || mayBe(x.s) != x.want {
			t.Errorf("%d: May(%q): %v", i, x.s, got)
		}
	}
}

// TestEachRune asks of every sign that there is.
func TestEachRune(t *testing.T) {
	for r := rune(0); r <= utf8.MaxRune; r++ {
		if !utf8.ValidRune(r) {
			continue
		}
		s := string(r)
		if got := May(s); got == isOdd(r) {
			t.Errorf("May(%U): %v", r, got)
		}
		if got := Width(s); got != widthOf(r) {
			t.Errorf("Width(%U): %d", r, got)
		}
		if got := Count(s); got != 1 {
			t.Errorf("Count(%U): %d", r, got)
		}
		if got := Clean(s); got != cleanOf(s) {
			t.Errorf("Clean(%U): %q", r, got)
		}
		for at, got := range Signs(s) {
			if at != 0 || got != r {
				t.Errorf("Signs(%U): %d, %U", r, at, got)
			}
		}
	}
}

// TestEachTwoBytes asks of every byte, and of every two.
func TestEachTwoBytes(t *testing.T) {
	for a := range 256 {
		for b := range 256 {
			for _, s := range []string{string([]byte{byte(a)}), string([]byte{byte(a), byte(b)})} {
				if May(s) != mayBe(s) || Count(s) != len(signsOf(s)) || Width(s) != widthOfAll(signsOf(s)) || Clean(s) != cleanOf(s) {
					t.Errorf("%q: %v, %d, %d, %q", s, May(s), Count(s), Width(s), Clean(s))
				}
			}
		}
	}
}

func TestCountWidthClean(t *testing.T) {
	long := strings.Repeat("é", 64)
	for i, x := range []struct {
		s     string
		count int
		width int
		clean string
	}{
		{"", 0, 0, ""},
		{"abc", 3, 3, "abc"},
		{"日本", 2, 4, "日本"},
		{"a日e\u0301", 4, 4, "a日e\u0301"},
		{"\u0301", 1, 0, "\u0301"},
		{"a\nb", 3, 3, "a?b"},
		{"\x00\x7f\u2028\u202e", 4, 4, "????"},
		{"\xff\xfe", 2, 2, "??"},
		{"\xe6\x97a", 3, 3, "??a"},
		{"\xed\xa0\x80", 3, 3, "???"},
		{mark, 1, 1, mark},
		{"\xef" + mark + "\xbf", 3, 3, "?" + mark + "?"},
		{long, 64, 64, long},
		{long + "a", 65, 65, long},
		{long + "\xff\xff", 66, 66, long},
		{"\n" + long, 65, 65, "?" + long[2:]},
		{"\xff" + long[2:] + "ab", 66, 66, "?" + long[2:]},
		{strings.Repeat("\xff", 70), 70, 70, strings.Repeat("?", 64)},
		{strings.Repeat("😀", 70), 70, 140, strings.Repeat("😀", 64)},
	} {
		if Count(x.s) != x.count || Width(x.s) != x.width || Clean(x.s) != x.clean {
			t.Errorf("%d: %q: %d, %d, %q", i, x.s, Count(x.s), Width(x.s), Clean(x.s))
		}
	}
}

func TestMayCountWidthCleanOfMany(t *testing.T) {
	for _, s := range append(texts(), titles()...) {
		l := signsOf(s)
		if got := May(s); got != mayBe(s) {
			t.Errorf("May(%q): %v", s, got)
		}
		if got := Count(s); got != len(l) {
			t.Errorf("Count(%q): %d", s, got)
		}
		if got := Width(s); got != widthOfAll(l) {
			t.Errorf("Width(%q): %d", s, got)
		}
		if got := Clean(s); got != cleanOf(s) {
			t.Errorf("Clean(%q): %q", s, got)
		}
	}
}

func TestSigns(t *testing.T) {
	for _, s := range texts() {
		var want, got []rune
		var wantAt, gotAt []int
		at := 0
		for _, x := range signsOf(s) {
			want, wantAt = append(want, x.r), append(wantAt, at)
			at += len(x.bytes)
		}
		for at, r := range Signs(s) {
			got, gotAt = append(got, r), append(gotAt, at)
		}
		if !slices.Equal(got, want) || !slices.Equal(gotAt, wantAt) {
			t.Errorf("Signs(%q): %U at %d", s, got, gotAt)
		}
	}
}

func TestSignsAgainAndLeft(t *testing.T) {
	signs := Signs("a日\xffb")
	for range 2 {
		var places []int
		for at := range signs {
			places = append(places, at)
		}
		if !slices.Equal(places, []int{0, 1, 4, 5}) {
			t.Error(places)
		}
	}
	for n := 1; n <= 4; n++ {
		told := 0
		signs(func(int, rune) bool {
			told++
			return told < n
		})
		if told != n {
			t.Errorf("left behind %d: %d", n, told)
		}
	}
}

// P6.2

func TestCut(t *testing.T) {
	for i, x := range []struct {
		s    string
		n    int
		want string
	}{
		{"日本", 3, "日"},
		{"日本", 4, "日本"},
		{"日本", 2, "日"},
		{"日本", 1, ""},
		{"日本", 0, ""},
		{"日本", math.MaxInt, "日本"},
		{"abc", 2, "ab"},
		{"abc", 3, "abc"},
		{"abc", 9, "abc"},
		{"abc", -1, ""},
		{"abc", math.MinInt, ""},
		{"", 0, ""},
		{"", 5, ""},
		{"", -5, ""},
		{"a日b", 2, "a"},
		{"日a", 1, ""},
		{"e\u0301\u0302x", 1, "e\u0301\u0302"},
		{"e\u0301\u0302x", 0, ""},
		{"\u0301a", 0, "\u0301"},
		{"\u0301a", -1, ""},
		{"日\u0301本\u0302", 3, "日\u0301"},
		{"日\u0301本\u0302", 4, "日\u0301本\u0302"},
		{"\xffa\xfe", 2, "\xffa"},
		{"\xe6\x97a", 1, "\xe6"},
		{"a\nb", 2, "a\n"},
		{strings.Repeat("a", 100), 70, strings.Repeat("a", 70)},
	} {
		if got := Cut(x.s, x.n); got != x.want || cutOf(x.s, x.n) != x.want {
			t.Errorf("%d: Cut(%q, %d): %q", i, x.s, x.n, got)
		}
	}
}

func TestPad(t *testing.T) {
	for i, x := range []struct {
		s    string
		n    int
		want string
	}{
		{"ab", 5, "ab   "},
		{"ab", 3, "ab "},
		{"ab", 2, "ab"},
		{"ab", 1, "a"},
		{"ab", 0, ""},
		{"ab", -1, ""},
		{"ab", math.MinInt, ""},
		{"", 3, "   "},
		{"", 0, ""},
		{"", -3, ""},
		{"日本", 3, "日 "},
		{"日本", 1, " "},
		{"日本", 5, "日本 "},
		{"e\u0301x", 1, "e\u0301"},
		{"e\u0301", 2, "e\u0301 "},
		{"\u0301日", 1, "\u0301 "},
		{"\xff", 3, "\xff  "},
		{"\n", 2, "\n "},
	} {
		if got := Pad(x.s, x.n); got != x.want || padOf(x.s, x.n) != x.want {
			t.Errorf("%d: Pad(%q, %d): %q", i, x.s, x.n, got)
		}
	}
}

func TestPadOfTheGreatestWidth(t *testing.T) {
	if got := Pad("日", 1<<16); got != "日"+strings.Repeat(" ", 1<<16-2) {
		t.Error(len(got))
	}
	if got := Pad("", 1<<16); got != strings.Repeat(" ", 1<<16) {
		t.Error(len(got))
	}
	if got := Pad(strings.Repeat("a", 1<<16), 1<<16); got != strings.Repeat("a", 1<<16) {
		t.Error(len(got))
	}
	// Beyond it nothing is promised, but it is answered.
	for _, n := range []int{1<<16 + 1, 1 << 40, math.MaxInt} {
		if got := Pad("a", n); !strings.HasPrefix(got, "a ") {
			t.Error(n)
		}
	}
}

func TestCutAndPadOfMany(t *testing.T) {
	for _, s := range texts() {
		w := Width(s)
		for _, n := range []int{-1, 0, 1, 2, 3, w - 2, w - 1, w, w + 1, w + 2} {
			if got := Cut(s, n); got != cutOf(s, n) {
				t.Errorf("Cut(%q, %d): %q", s, n, got)
			}
			if got := Pad(s, n); got != padOf(s, n) {
				t.Errorf("Pad(%q, %d): %q", s, n, got)
			}
		}
	}
}

func TestLike(t *testing.T) {
	for i, x := range []struct {
		a, b string
		want bool
	}{
		{"", "", true},
		{"", "a", false},
		{"abc", "abc", true},
		{"abc", "ABC", true},
		{"aBc", "AbC", true},
		{"AZ", "az", true},
		{"abc", "abd", false},
		{"abc", "ab", false},
		{"ab", "ba", false},
		{"@", "`", false},
		{"[", "{", false},
		{"é", "É", false},
		{"e\u0301", "é", false},
		{"k", "\u212a", false},
		{"ｗ", "Ｗ", false},
		{"ß", "ss", false},
		{"日", "日", true},
		{"日", "本", false},
		{"\xff", "\xfe", true},
		{"\xff", mark, true},
		{"\xff\xff", mark, false},
		{"\xe6\x97", mark + mark, true},
		{"a\xffB", "A" + mark + "b", true},
		{"\xff", "?", false},
		{"\xff", "", false},
		{"\n", "\n", true},
		{"\n", "?", false},
		{"a ", "a", false},
		{strings.Repeat("a", 100) + "b", strings.Repeat("A", 100) + "B", true},
		{strings.Repeat("a", 100) + "b", strings.Repeat("A", 100) + "c", false},
	} {
		if Like(x.a, x.b) != x.want || Like(x.b, x.a) != x.want || likeOf(x.a, x.b) != x.want {
			t.Errorf("%d: Like(%q, %q): %v", i, x.a, x.b, Like(x.a, x.b))
		}
	}
}

func TestLikeOfEachTwo(t *testing.T) {
	var l []string
	for r := range rune(0x180) {
		l = append(l, string(r))
	}
	for b := 128; b < 256; b++ {
		l = append(l, string([]byte{byte(b)}))
	}
	l = append(l, pieces()...)
	for _, a := range l {
		for _, b := range l {
			if got := Like(a, b); got != likeOf(a, b) {
				t.Errorf("Like(%q, %q): %v", a, b, got)
			}
		}
	}
}

func TestLikeOfMany(t *testing.T) {
	d := dice(26)
	for _, s := range texts() {
		for _, o := range []string{s, strings.ToUpper(s), strings.ToLower(s), strings.ToValidUTF8(s, mark), string([]rune(s)), d.text(3), s + "a"} {
			if got := Like(s, o); got != likeOf(s, o) {
				t.Errorf("Like(%q, %q): %v", s, o, got)
			}
		}
	}
}

// P6.3

func TestWhatIsCleanMayBe(t *testing.T) {
	for _, s := range texts() {
		c := Clean(s)
		if !May(c) || Clean(c) != c || May(s) != (c == s) {
			t.Errorf("Clean(%q): %q", s, c)
		}
	}
	for _, s := range titles() {
		if May(s) != (Clean(s) == s) {
			t.Errorf("Clean(%q): %q", s, Clean(s))
		}
	}
}

func TestWhatIsCutBeginsItAndIsNoWider(t *testing.T) {
	for _, s := range texts() {
		for n := range 8 {
			c, p := Cut(s, n), Pad(s, n)
			if !strings.HasPrefix(s, c) || Width(c) > n || Cut(c, n) != c {
				t.Errorf("Cut(%q, %d): %q", s, n, c)
			}
			if !strings.HasPrefix(p, c) || Width(p) != n {
				t.Errorf("Pad(%q, %d): %q", s, n, p)
			}
		}
	}
}
