package request

import (
	"bytes"
	"fmt"
	"math"
	"slices"
	"strings"
	"testing"
	"unicode/utf8"

	"rondel/api"
)

// row is a line of the chapter's table; least and most are of its numbers.
type row struct {
	name, form  string
	least, most int
}

// rows is the chapter's table.
var rows = []row{
	0:  {"buffer", "uu", 1, 256},
	1:  {"unbuffer", "", 0, 0},
	2:  {"write", "rb", 0, 0},
	3:  {"surface", "", 0, 0},
	4:  {"unsurface", "", 0, 0},
	5:  {"attach", "u", 0, 4294967295},
	6:  {"damage", "r", 0, 0},
	7:  {"move", "ii", -1048576, 1048576},
	8:  {"raise", "u", 0, 4294967295},
	9:  {"lower", "", 0, 0},
	10: {"scale", "u", 1, 8},
	11: {"clip", "r", 0, 0},
	12: {"opaque", "r", 0, 0},
	13: {"fade", "u", 0, 255},
	14: {"title", "s", 0, 0},
	15: {"frame", "u", 0, 4294967295},
	16: {"commit", "", 0, 0},
	17: {"cursor", "ii", -1048576, 1048576},
	18: {"point", "ii", -1048576, 1048576},
}

const (
	opWrite = 2
	opTitle = 14
	opPoint = 18
)

// noOps are numbers of no operation.
var noOps = []int{-1, -2, -256, 19, 20, 21, 127, 128, 129, 255, 256, 257, 274, 1 << 16, 1 << 32, 1<<32 + 3, math.MinInt, math.MaxInt}

// four is a number's bytes.
func four(n int) []byte { return []byte{byte(n >> 24), byte(n >> 16), byte(n >> 8), byte(n)} }

// words is the bytes of numbers.
func words(l ...int) []byte {
	var b []byte
	for _, n := range l {
		b = append(b, four(n)...)
	}
	return b
}

func rectBytes(r api.Rect) []byte { return words(r.X0, r.Y0, r.X1, r.Y1) }

func textBytes(s string) []byte { return append([]byte{byte(len(s))}, s...) }

// bodyOf is the bytes of a request's arguments.
func bodyOf(r Request) []byte {
	switch rows[r.Op].form {
	case "u":
		return words(r.A)
	case "uu", "ii":
		return words(r.A, r.B)
	case "r":
		return rectBytes(r.R)
	case "rb":
		return append(rectBytes(r.R), r.Data...)
	case "s":
		return textBytes(r.Text)
	}
	return nil
}

// bytesOf is a message's bytes.
func bytesOf(m api.Message) []byte {
	n := 7 + len(m.Body)
	return slices.Concat([]byte{byte(n >> 8), byte(n), byte(m.Op)}, four(m.Id), m.Body)
}

// signed is the number of four bytes, below 0 where its first bit is set.
func signed(b []byte) int {
	n := unsigned(b)
	if n > 2147483647 {
		n -= 4294967296
	}
	return n
}

func unsigned(b []byte) int {
	return ((int(b[0])*256+int(b[1]))*256+int(b[2]))*256 + int(b[3])
}

// length is how many bytes a body of the form must have that begins so.
func length(form string, b []byte) int {
	switch form {
	case "u":
		return 4
	case "uu", "ii":
		return 8
	case "r":
		return 16
	case "rb":
		return max(16, len(b))
	case "s":
		if len(b) == 0 {
			return 1
		}
		return 1 + int(b[0])
	}
	return 0
}

// read is the request whose body is as long as it must be.
func read(m api.Message) Request {
	r := Request{Op: m.Op, Id: m.Id}
	switch b := m.Body; rows[m.Op].form {
	case "u":
		r.A = unsigned(b)
	case "uu":
		r.A, r.B = unsigned(b), unsigned(b[4:])
	case "ii":
		r.A, r.B = signed(b), signed(b[4:])
	case "rb":
		r.Data = b[16:]
		fallthrough
	case "r":
		r.R = api.Rect{X0: signed(b), Y0: signed(b[4:]), X1: signed(b[8:]), Y1: signed(b[12:])}
	case "s":
		r.Text = string(b[1:])
	}
	return r
}

// isTitle is chapter 6's words.
func isTitle(s string) bool {
	if !utf8.ValidString(s) || utf8.RuneCountInString(s) > 64 {
		return false
	}
	for _, r := range s {
		if r < 32 || r == 127 || r >= 0x2028 && r <= 0x202E {
			return false
		}
	}
	return true
}

// isRect is chapter 1's words.
func isRect(r api.Rect) bool {
	for _, n := range []int{r.X0, r.Y0, r.X1, r.Y1} {
		if n < -1048576 || n > 1048576 {
			return false
		}
	}
	return r.X0 <= r.X1 && r.Y0 <= r.Y1
}

// mayBe is the chapter's words of an Id and of arguments.
func mayBe(r Request) bool {
	if r.Op == opPoint && r.Id != 0 || r.Op != opPoint && (r.Id < 1 || r.Id > 4294967295) {
		return false
	}
	x := rows[r.Op]
	switch x.form {
	case "u":
		return r.A >= x.least && r.A <= x.most
	case "uu", "ii":
		return r.A >= x.least && r.A <= x.most && r.B >= x.least && r.B <= x.most
	case "r":
		return isRect(r.R)
	case "rb":
		return isRect(r.R) && r.R.X0 != r.R.X1 && r.R.Y0 != r.R.Y1
	case "s":
		return isTitle(r.Text)
	}
	return true
}

// decoded is what the chapter tells of Decode.
func decoded(m api.Message) (Request, api.Errno) {
	if m.Op < 0 || m.Op > 18 {
		return Request{}, api.ErrOp
	}
	switch n := length(rows[m.Op].form, m.Body); {
	case len(m.Body) < n:
		return Request{}, api.ErrShort
	case len(m.Body) > n:
		return Request{}, api.ErrForm
	}
	r := read(m)
	if !mayBe(r) {
		return Request{}, api.ErrRange
	}
	return r, api.OK
}

// only is r with what its Op has, and nothing else.
func only(r Request) Request {
	q := Request{Op: r.Op, Id: r.Id}
	switch rows[r.Op].form {
	case "u":
		q.A = r.A
	case "uu", "ii":
		q.A, q.B = r.A, r.B
	case "rb":
		q.R, q.Data = r.R, r.Data
	case "r":
		q.R = r.R
	case "s":
		q.Text = r.Text
	}
	return q
}

// equal tells whether two are the same.
func equal(a, b Request) bool {
	x, y := string(a.Data), string(b.Data)
	a.Data, b.Data = nil, nil
	return x == y && fmt.Sprintf("%#v", a) == fmt.Sprintf("%#v", b)
}

func equalMessage(a, b api.Message) bool {
	return a.Op == b.Op && a.Id == b.Id && bytes.Equal(a.Body, b.Body)
}

// encoded is what the chapter tells of Encode.
func encoded(r Request) (api.Message, api.Errno) {
	if r.Op < 0 || r.Op > 18 {
		return api.Message{}, api.ErrOp
	}
	if !mayBe(r) || !equal(r, only(r)) || len(r.Text) > 255 || len(bodyOf(r)) > 4096 {
		return api.Message{}, api.ErrArg
	}
	return api.Message{Op: r.Op, Id: r.Id, Body: bodyOf(r)}, api.OK
}

// brief is how a value looks, or how it begins to.
func brief(v any) string { return fmt.Sprintf("%.100s", fmt.Sprintf("%+v", v)) }

// checkDecode holds Decode against the chapter's words, and tells what these tell.
func checkDecode(t *testing.T, m api.Message) api.Errno {
	t.Helper()
	want, wrong := decoded(m)
	if r, err := Decode(m); err != wrong || !equal(r, want) {
		t.Fatalf("Decode(%s): %s, %v, not %s, %v", brief(m), brief(r), err, brief(want), wrong)
	}
	return wrong
}

// checkEncode holds Encode against the chapter's words, and tells what these tell.
func checkEncode(t *testing.T, r Request) api.Errno {
	t.Helper()
	want, wrong := encoded(r)
	if m, err := Encode(r); err != wrong || !equalMessage(m, want) {
		t.Fatalf("Encode(%s): %s, %v, not %s, %v", brief(r), brief(m), err, brief(want), wrong)
	}
	return wrong
}

// checkBoth holds both against the chapter's words: Encode of r, and Decode of such a message.
func checkBoth(t *testing.T, r Request) {
	t.Helper()
	checkEncode(t, r)
	checkDecode(t, api.Message{Op: r.Op, Id: r.Id, Body: bodyOf(r)})
}

// right is a request of the operation that may be.
func right(op int) Request {
	r := Request{Op: op, Id: 5}
	if op == opPoint {
		r.Id = 0
	}
	switch rows[op].form {
	case "u":
		r.A = 3
	case "uu", "ii":
		r.A, r.B = 3, 7
	case "r":
		r.R = api.Rect{X0: -1, Y0: 2, X1: 3, Y1: 4}
	case "rb":
		r.R, r.Data = api.Rect{X0: 1, Y0: 2, X1: 3, Y1: 4}, []byte{9, 8, 7}
	case "s":
		r.Text = "tea"
	}
	return r
}

// dice is a row of numbers that is the same each time.
type dice uint64

func (d *dice) roll(n int) int {
	*d = *d*6364136223846793005 + 1442695040888963407
	return int(uint64(*d) >> 33 % uint64(n))
}

func (d *dice) of(l ...int) int { return l[d.roll(len(l))] }

func (d *dice) bytes(n int) []byte {
	b := make([]byte, n)
	for i := range b {
		b[i] = byte(d.roll(256))
	}
	return b
}

// number is one of those from least to most, or just beyond them now and then.
func (d *dice) number(least, most int) int {
	switch d.roll(12) {
	case 0:
		return least - d.roll(2)
	case 1:
		return most + d.roll(2)
	}
	return least + d.roll(most-least+1)
}

// text is a title for the most part.
func (d *dice) text() string {
	signs := []string{"a", "Z", "é", "日", "😀", " ", "~", "\u2027", "\u202f", "\ufffd"}
	odd := []string{"\x1f", "\x7f", "\u2028", "\u202e", "\xff", "\xe6"}
	n := d.of(d.roll(10), d.roll(66), 62+d.roll(4))
	sign := signs[d.roll(len(signs))]
	var s strings.Builder
	for range n {
		if d.roll(4) == 0 {
			sign = signs[d.roll(len(signs))]
		}
		if d.roll(500) == 0 {
			sign = odd[d.roll(len(odd))]
		}
		s.WriteString(sign)
	}
	return s.String()
}

// rect is one that may be for the most part.
func (d *dice) rect() api.Rect {
	far := d.of(4, 300, 1048577)
	x, y := d.roll(2*far+1)-far, d.roll(2*far+1)-far
	return api.Rect{X0: x, Y0: y, X1: x + d.of(d.roll(5), d.roll(300)) - d.roll(2), Y1: y + d.of(d.roll(5), d.roll(300)) - d.roll(2)}
}

// request is one that may be for the most part.
func (d *dice) request() Request {
	op := d.roll(19)
	r := Request{Op: op, Id: d.of(1, 1+d.roll(9), 1+d.roll(1<<31), 4294967295)}
	if op == opPoint {
		r.Id = 0
	}
	if d.roll(20) == 0 {
		r.Id = d.of(-1, 0, 1, 4294967296)
	}
	x := rows[op]
	switch x.form {
	case "u":
		r.A = d.number(x.least, x.most)
	case "uu", "ii":
		r.A, r.B = d.number(x.least, x.most), d.number(x.least, x.most)
	case "r":
		r.R = d.rect()
	case "rb":
		r.R, r.Data = d.rect(), d.bytes(d.of(d.roll(5), d.roll(60), 4070+d.roll(40)))
	case "s":
		r.Text = d.text()
	}
	return r
}

// P9.1: the table

func TestNumbers(t *testing.T) {
	ops := []int{
		Buffer, Unbuffer, Write, Surface, Unsurface, Attach, Damage, Move, Raise, Lower,
		Scale, Clip, Opaque, Fade, Title, Frame, Commit, Cursor, Point, Ops,
	}
	for i, op := range ops {
		if op != i {
			t.Errorf("%d is %d", i, op)
		}
	}
	if Ops != len(rows) {
		t.Error(Ops)
	}
}

func TestNameAndForm(t *testing.T) {
	for op, x := range rows {
		if Name(op) != x.name {
			t.Errorf("Name(%d): %q", op, Name(op))
		}
		if f, ok := Form(op); f != x.form || !ok {
			t.Errorf("Form(%d): %q, %v", op, f, ok)
		}
	}
	for _, op := range noOps {
		if Name(op) != "" {
			t.Errorf("Name(%d): %q", op, Name(op))
		}
		if f, ok := Form(op); f != "" || ok {
			t.Errorf("Form(%d): %q, %v", op, f, ok)
		}
	}
}

// P9.1: Decode

// examples are requests, and their messages.
var examples = []struct {
	m api.Message
	r Request
}{
	{api.Message{Op: 13, Id: 5, Body: []byte{0, 0, 0, 9}}, Request{Op: Fade, Id: 5, A: 9}},
	{api.Message{Op: 0, Id: 1, Body: []byte{0, 0, 0, 3, 0, 0, 1, 0}}, Request{Op: Buffer, Id: 1, A: 3, B: 256}},
	{api.Message{Op: 1, Id: 2}, Request{Op: Unbuffer, Id: 2}},
	{
		api.Message{Op: 2, Id: 3, Body: []byte{0, 0, 0, 1, 0, 0, 0, 2, 0, 0, 0, 3, 0, 0, 0, 4, 9, 8}},
		Request{Op: Write, Id: 3, R: api.Rect{X0: 1, Y0: 2, X1: 3, Y1: 4}, Data: []byte{9, 8}},
	},
	{
		api.Message{Op: 2, Id: 3, Body: []byte{255, 255, 255, 255, 0, 0, 0, 0, 0, 0, 0, 0, 0, 0, 0, 1}},
		Request{Op: Write, Id: 3, R: api.Rect{X0: -1, Y0: 0, X1: 0, Y1: 1}},
	},
	{api.Message{Op: 3, Id: 4294967295}, Request{Op: Surface, Id: 4294967295}},
	{api.Message{Op: 4, Id: 1}, Request{Op: Unsurface, Id: 1}},
	{api.Message{Op: 5, Id: 1, Body: []byte{255, 255, 255, 255}}, Request{Op: Attach, Id: 1, A: 4294967295}},
	{api.Message{Op: 5, Id: 1, Body: []byte{0, 0, 0, 0}}, Request{Op: Attach, Id: 1}},
	{
		api.Message{Op: 6, Id: 1, Body: []byte{255, 240, 0, 0, 255, 240, 0, 0, 0, 16, 0, 0, 0, 16, 0, 0}},
		Request{Op: Damage, Id: 1, R: api.Rect{X0: -1048576, Y0: -1048576, X1: 1048576, Y1: 1048576}},
	},
	{api.Message{Op: 7, Id: 1, Body: []byte{255, 240, 0, 0, 0, 16, 0, 0}}, Request{Op: Move, Id: 1, A: -1048576, B: 1048576}},
	{api.Message{Op: 8, Id: 1, Body: []byte{0, 0, 0, 1}}, Request{Op: Raise, Id: 1, A: 1}},
	{api.Message{Op: 9, Id: 1}, Request{Op: Lower, Id: 1}},
	{api.Message{Op: 10, Id: 1, Body: []byte{0, 0, 0, 8}}, Request{Op: Scale, Id: 1, A: 8}},
	{api.Message{Op: 11, Id: 1, Body: make([]byte, 16)}, Request{Op: Clip, Id: 1}},
	{
		api.Message{Op: 12, Id: 1, Body: []byte{0, 0, 0, 1, 0, 0, 0, 1, 0, 0, 0, 1, 0, 0, 0, 2}},
		Request{Op: Opaque, Id: 1, R: api.Rect{X0: 1, Y0: 1, X1: 1, Y1: 2}},
	},
	{api.Message{Op: 14, Id: 1, Body: []byte{3, 0xe6, 0x97, 0xa5}}, Request{Op: Title, Id: 1, Text: "日"}},
	{api.Message{Op: 14, Id: 1, Body: []byte{0}}, Request{Op: Title, Id: 1}},
	{api.Message{Op: 15, Id: 1, Body: []byte{128, 0, 0, 1}}, Request{Op: Frame, Id: 1, A: 2147483649}},
	{api.Message{Op: 16, Id: 1}, Request{Op: Commit, Id: 1}},
	{api.Message{Op: 17, Id: 1, Body: []byte{0, 0, 0, 2, 255, 255, 255, 254}}, Request{Op: Cursor, Id: 1, A: 2, B: -2}},
	{api.Message{Op: 18, Id: 0, Body: []byte{0, 0, 0, 0, 0, 0, 0, 1}}, Request{Op: Point, B: 1}},
}

func TestExamples(t *testing.T) {
	for _, x := range examples {
		if r, err := Decode(x.m); err != api.OK || !equal(r, x.r) {
			t.Errorf("Decode(%v): %v, %v", x.m, r, err)
		}
		if m, err := Encode(x.r); err != api.OK || !equalMessage(m, x.m) {
			t.Errorf("Encode(%v): %v, %v", x.r, m, err)
		}
		checkBoth(t, x.r)
	}
}

func TestDecodeOfNoOp(t *testing.T) {
	for _, op := range noOps {
		for _, id := range []int{-1, 0, 1, 1 << 32} {
			for n := range 30 {
				m := api.Message{Op: op, Id: id, Body: make([]byte, n)}
				if r, err := Decode(m); err != api.ErrOp || !equal(r, Request{}) {
					t.Errorf("%v: %v, %v", m, r, err)
				}
			}
		}
	}
}

// ids are such as may be, and others; 2^32 and more would be such as may be, if they were cut to four bytes.
var ids = []int{math.MinInt, -1 << 32, -4294967295, -1 << 31, -2, -1, 0, 1, 2, 255, 256, 1<<31 - 1, 1 << 31, 1<<32 - 2, 1<<32 - 1, 1 << 32, 1<<32 + 1, 1 << 33, math.MaxInt}

func TestIds(t *testing.T) {
	for op := range rows {
		for _, id := range ids {
			r := right(op)
			r.Id = id
			want, wrong := api.ErrRange, api.ErrArg
			if op == opPoint && id == 0 || op != opPoint && id > 0 && id <= 4294967295 {
				want, wrong = api.OK, api.OK
			}
			if got := checkDecode(t, api.Message{Op: op, Id: id, Body: bodyOf(r)}); got != want {
				t.Error(op, id, got)
			}
			if got := checkEncode(t, r); got != wrong {
				t.Error(op, id, got)
			}
		}
	}
}

// ends are numbers round the bounds of all operations, and such as wrap round into them.
func ends() []int {
	l := []int{math.MinInt, math.MaxInt, 1<<32 + 5, -1<<32 + 5, 1<<33 + 1, 3, 100}
	for _, n := range []int{0, 1, 8, 255, 256, 1 << 20, 1 << 31, 1 << 32} {
		l = append(l, n-1, n, n+1, -n-1, -n, -n+1)
	}
	return l
}

func TestNumbersMayBe(t *testing.T) {
	for op, x := range rows {
		if !strings.ContainsAny(x.form, "ui") {
			continue
		}
		for _, a := range ends() {
			for _, b := range ends() {
				r := right(op)
				if r.A = a; len(x.form) == 2 {
					r.B = b
				}
				checkBoth(t, r)
			}
		}
	}
}

// TestBounds has the bounds written out: what is at them may be, what is beyond may not.
func TestBounds(t *testing.T) {
	for _, x := range []struct{ op, least, most int }{
		{Buffer, 1, 256}, {Move, -1048576, 1048576}, {Cursor, -1048576, 1048576}, {Point, -1048576, 1048576},
		{Scale, 1, 8}, {Fade, 0, 255}, {Attach, 0, 4294967295}, {Raise, 0, 4294967295}, {Frame, 0, 4294967295},
	} {
		two := len(rows[x.op].form) == 2
		for _, n := range []int{x.least, x.most} {
			beyond := n - 1
			if n == x.most {
				beyond = n + 1
			}
			r := right(x.op)
			r.A = n
			if m, err := Encode(r); err != api.OK {
				t.Error(r, m, err)
			}
			r.A = beyond
			if m, err := Encode(r); err != api.ErrArg {
				t.Error(r, m, err)
			}
			if !two {
				continue
			}
			r = right(x.op)
			r.B = n
			if m, err := Encode(r); err != api.OK {
				t.Error(r, m, err)
			}
			r.B = beyond
			if m, err := Encode(r); err != api.ErrArg {
				t.Error(r, m, err)
			}
			if got, err := Decode(api.Message{Op: r.Op, Id: r.Id, Body: bodyOf(r)}); err != api.ErrRange {
				t.Error(r, got, err)
			}
		}
	}
}

func TestRects(t *testing.T) {
	far := 1048576
	all := []int{-far - 1, -far, -far + 1, -1, 0, 1, 2, far - 1, far, far + 1, math.MinInt32, math.MaxInt32, 1 << 32, math.MinInt}
	for op, x := range rows {
		if !strings.Contains(x.form, "r") {
			continue
		}
		for _, x0 := range all {
			for _, x1 := range all {
				for _, y := range [][2]int{{0, 1}, {0, 0}, {1, 0}, {-far, far}, {-far - 1, 0}, {0, far + 1}, {math.MinInt32, math.MaxInt32}, {1, 1 << 33}} {
					for _, r := range []api.Rect{{X0: x0, Y0: y[0], X1: x1, Y1: y[1]}, {X0: y[0], Y0: x0, X1: y[1], Y1: x1}} {
						q := right(op)
						q.R = r
						checkBoth(t, q)
					}
				}
			}
		}
	}
}

// TestEmptyRects: what is written has points; all else may have none.
func TestEmptyRects(t *testing.T) {
	for _, r := range []api.Rect{{}, {X0: 3, Y0: 3, X1: 3, Y1: 3}, {X0: 1, Y0: 2, X1: 1, Y1: 9}, {X0: 1, Y0: 2, X1: 9, Y1: 2}} {
		for op, want := range map[int]api.Errno{Write: api.ErrRange, Damage: api.OK, Clip: api.OK, Opaque: api.OK} {
			m := api.Message{Op: op, Id: 1, Body: rectBytes(r)}
			if got, err := Decode(m); err != want || err == api.OK && got.R != r {
				t.Error(m, got, err)
			}
		}
	}
}

func TestTitles(t *testing.T) {
	for _, s := range []string{
		"", "a", "tea and cake", "日本", "é", "😀", " ", "~", "\ufffd", "\u2027\u202f\u0300", strings.Repeat("a", 64), strings.Repeat("日", 64),
		strings.Repeat("é", 64), strings.Repeat("😀", 63) + "日", // 255 bytes
	} {
		r := Request{Op: Title, Id: 1, Text: s}
		if m, err := Encode(r); err != api.OK || !bytes.Equal(m.Body, textBytes(s)) {
			t.Errorf("%q: %v, %v", s, m, err)
		}
		if got, err := Decode(api.Message{Op: Title, Id: 1, Body: textBytes(s)}); err != api.OK || !equal(got, r) {
			t.Errorf("%q: %v, %v", s, got, err)
		}
	}
	for _, s := range []string{
		"\x00", "\n", "a\tb", "\x1f", "\x7f", "\u2028", "\u202a", "\u202e", "\xff", "a\x80", "\xe6\x97", "\xed\xa0\x80", "\xc0\x80",
		strings.Repeat("a", 65), strings.Repeat("日", 65), strings.Repeat("é", 65), strings.Repeat("a", 255), strings.Repeat("a", 63) + "\n",
	} {
		if m, err := Encode(Request{Op: Title, Id: 1, Text: s}); err != api.ErrArg || !equalMessage(m, api.Message{}) {
			t.Errorf("%q: %v, %v", s, m, err)
		}
		if r, err := Decode(api.Message{Op: Title, Id: 1, Body: textBytes(s)}); err != api.ErrRange || !equal(r, Request{}) {
			t.Errorf("%q: %v, %v", s, r, err)
		}
	}
}

// TestLongTexts: a title of 64 signs may have more bytes than a message's text has.
func TestLongTexts(t *testing.T) {
	for _, s := range []string{strings.Repeat("😀", 64), strings.Repeat("a", 256), strings.Repeat("日", 300), strings.Repeat("a", 257)} {
		if m, err := Encode(Request{Op: Title, Id: 1, Text: s}); err != api.ErrArg || !equalMessage(m, api.Message{}) {
			t.Errorf("%q: %v, %v", s, m, err)
		}
	}
}

// TestLengths has bodies of each length, of arguments that may be and of such as may not.
func TestLengths(t *testing.T) {
	for op := range rows {
		full := bodyOf(right(op))
		odd := bytes.Repeat([]byte{255}, len(full))
		if op == opTitle {
			odd[0] = byte(len(full) - 1)
		}
		for _, body := range [][]byte{full, odd} {
			for _, id := range []int{-1, 0, 1, 1 << 32} {
				for n := range len(body) {
					want := api.ErrShort
					if op == opWrite && n >= 16 {
						continue
					}
					if got := checkDecode(t, api.Message{Op: op, Id: id, Body: body[:n]}); got != want {
						t.Error(op, n, got)
					}
				}
				for n := 1; n < 20; n++ {
					got := checkDecode(t, api.Message{Op: op, Id: id, Body: append(slices.Clone(body), make([]byte, n)...)})
					if op != opWrite && got != api.ErrForm {
						t.Error(op, n, got)
					}
				}
				checkDecode(t, api.Message{Op: op, Id: id, Body: body})
			}
		}
	}
	for n := range 256 {
		for have := range 256 {
			b := append([]byte{byte(n)}, bytes.Repeat([]byte("a"), have)...)
			checkDecode(t, api.Message{Op: Title, Id: 1, Body: b})
		}
	}
}

// TestFirst has messages of which several errors are true.
func TestFirst(t *testing.T) {
	for i, x := range []struct {
		m    api.Message
		want api.Errno
	}{
		{api.Message{Op: 19, Id: 0, Body: []byte{1}}, api.ErrOp},
		{api.Message{Op: -1, Id: -1}, api.ErrOp},
		{api.Message{Op: Buffer, Id: 0, Body: []byte{9, 9, 9, 9, 9, 9, 9}}, api.ErrShort},
		{api.Message{Op: Buffer, Id: 0, Body: []byte{9, 9, 9, 9, 9, 9, 9, 9, 9}}, api.ErrForm},
		{api.Message{Op: Buffer, Id: 0, Body: []byte{9, 9, 9, 9, 9, 9, 9, 9}}, api.ErrRange},
		{api.Message{Op: Commit, Id: 0, Body: []byte{1}}, api.ErrForm},
		{api.Message{Op: Point, Id: 1, Body: []byte{1, 2, 3, 4, 5, 6, 7}}, api.ErrShort},
		{api.Message{Op: Title, Id: 0}, api.ErrShort},
		{api.Message{Op: Title, Id: 0, Body: []byte{1, 10, 10}}, api.ErrForm},
		{api.Message{Op: Title, Id: 1, Body: []byte{2, 10}}, api.ErrShort},
		{api.Message{Op: Write, Id: 0, Body: make([]byte, 15)}, api.ErrShort},
		{api.Message{Op: Write, Id: 0, Body: make([]byte, 99)}, api.ErrRange},
	} {
		if r, err := Decode(x.m); err != x.want || !equal(r, Request{}) {
			t.Error(i, r, err)
		}
		checkDecode(t, x.m)
	}
}

// TestLongData: Decode takes data of any number of bytes, Encode no more than a message has.
func TestLongData(t *testing.T) {
	d := dice(91)
	for _, n := range []int{0, 1, 4, 4079, 4080, 4081, 4095, 4096, 4097, 5000, 70000} {
		r := Request{Op: Write, Id: 1, R: api.Rect{X1: 1, Y1: 1}, Data: d.bytes(n)}
		want := api.OK
		if n > 4080 {
			want = api.ErrArg
		}
		if m, err := Encode(r); err != want || err != api.OK && !equalMessage(m, api.Message{}) {
			t.Error(n, brief(m), err)
		}
		checkBoth(t, r)
	}
	for op := range rows {
		if op != opWrite {
			checkDecode(t, api.Message{Op: op, Id: 1, Body: make([]byte, 5000)})
		}
	}
}

func TestDecodeMany(t *testing.T) {
	d := dice(92)
	told := [13]int{}
	for range 60000 {
		r := d.request()
		m := api.Message{Op: r.Op, Id: r.Id, Body: bodyOf(r)}
		switch d.roll(6) {
		case 0:
			m.Body = m.Body[:d.roll(len(m.Body)+1)]
		case 1:
			m.Body = append(m.Body, d.bytes(d.roll(5))...)
		case 2:
			m.Op = d.roll(22) - 1
		case 3:
			m.Body = d.bytes(length(rows[m.Op].form, m.Body))
		}
		told[checkDecode(t, m)]++
	}
	for _, e := range []api.Errno{api.OK, api.ErrOp, api.ErrShort, api.ErrForm, api.ErrRange} {
		if told[e] < 1000 {
			t.Error(e, told[e])
		}
	}
}

// P9.1: Encode

func TestEncodeOfNoOp(t *testing.T) {
	for _, op := range noOps {
		for _, r := range []Request{{}, {Id: 1}, {Id: -1, A: -1, B: 1 << 40, Text: "\n", R: api.Rect{X0: 5}, Data: make([]byte, 5000)}} {
			r.Op = op
			if m, err := Encode(r); err != api.ErrOp || !equalMessage(m, api.Message{}) {
				t.Error(op, m, err)
			}
		}
	}
}

// strange is r with one of its fields set, each in turn.
func strange(r Request) []Request {
	l := slices.Repeat([]Request{r}, 9)
	l[0].A++
	l[1].B++
	l[2].B = -1
	l[3].R.X1++
	l[4].R.Y1++
	l[5].R = api.Rect{X0: -9, Y0: -9, X1: 9, Y1: 9}
	l[6].Text += "a"
	l[7].Text += "\n"
	l[8].Data = append([]byte{0}, r.Data...)
	return l
}

// TestEncodeOfStrange has requests with fields that their Op has not.
func TestEncodeOfStrange(t *testing.T) {
	for op, x := range rows {
		if m, err := Encode(right(op)); err != api.OK {
			t.Error(op, m, err)
		}
		refused := 0
		for _, r := range strange(right(op)) {
			if checkEncode(t, r) == api.ErrArg {
				refused++
			}
			if _, err := Encode(r); !equal(r, only(r)) && err != api.ErrArg {
				t.Errorf("%v: %v", r, err)
			}
		}
		if x.form == "" && refused != 9 {
			t.Error(op, refused)
		}
	}
}

// TestEncodeOfNilData: both are one.
func TestEncodeOfNilData(t *testing.T) {
	for op := range rows {
		r := right(op)
		for _, data := range [][]byte{nil, {}, make([]byte, 0, 7)} {
			r.Data = data
			if got := checkEncode(t, r); got != api.OK {
				t.Error(r, got)
			}
		}
	}
}

func TestEncodeMany(t *testing.T) {
	d := dice(93)
	told := [13]int{}
	for range 60000 {
		r := d.request()
		switch d.roll(8) {
		case 0:
			l := strange(r)
			r = l[d.roll(len(l))]
		case 1:
			r.Op = d.roll(22) - 1
		}
		told[checkEncode(t, r)]++
	}
	for _, e := range []api.Errno{api.OK, api.ErrOp, api.ErrArg} {
		if told[e] < 1000 {
			t.Error(e, told[e])
		}
	}
}

// P9.1: Same

func TestSame(t *testing.T) {
	a := Request{Op: 1, Id: 2, A: 3, B: 4, R: api.Rect{X0: 5, Y0: 6, X1: 7, Y1: 8}, Text: "a", Data: []byte{9, 10}}
	l := []Request{a, {}}
	change := func(with func(r *Request)) {
		r := a
		r.Data = bytes.Clone(a.Data)
		with(&r)
		l = append(l, r)
	}
	change(func(r *Request) { r.Op++ })
	change(func(r *Request) { r.Id++ })
	change(func(r *Request) { r.A++ })
	change(func(r *Request) { r.B++ })
	change(func(r *Request) { r.A, r.B = r.B, r.A })
	change(func(r *Request) { r.R.X0++ })
	change(func(r *Request) { r.R.Y0++ })
	change(func(r *Request) { r.R.X1++ })
	change(func(r *Request) { r.R.Y1++ })
	change(func(r *Request) { r.Text = "" })
	change(func(r *Request) { r.Text = "A" })
	change(func(r *Request) { r.Text = "aa" })
	change(func(r *Request) { r.Data = nil })
	change(func(r *Request) { r.Data[0]++ })
	change(func(r *Request) { r.Data[1]++ })
	change(func(r *Request) { r.Data = r.Data[:1] })
	change(func(r *Request) { r.Data = append(r.Data, 0) })
	for i, x := range l {
		for j, y := range l {
			y.Data = append(make([]byte, 0, 9), y.Data...)
			if Same(x, y) != (i == j) {
				t.Errorf("%v, %v: %v", x, y, Same(x, y))
			}
		}
	}
	if !Same(Request{Data: []byte{}}, Request{}) || !Same(Request{Op: -7, A: math.MinInt}, Request{Op: -7, A: math.MinInt, Data: []byte{}}) {
		t.Error("nil and empty are one")
	}
}

// P9.2

// parsed is what the chapter tells of Parse.
func parsed(b []byte) ([]Request, api.Errno) {
	var l []Request
	for len(b) > 0 {
		if len(b) < 2 {
			return l, api.ErrShort
		}
		n := int(b[0])*256 + int(b[1])
		if n < 7 || n > 4103 {
			return l, api.ErrForm
		}
		if n > len(b) {
			return l, api.ErrShort
		}
		r, err := decoded(api.Message{Op: int(b[2]), Id: unsigned(b[3:]), Body: b[7:n]})
		if err != api.OK {
			return l, err
		}
		l = append(l, r)
		b = b[n:]
	}
	return l, api.OK
}

// checkParse holds Parse against the chapter's words, and tells what these tell.
func checkParse(t *testing.T, b []byte) api.Errno {
	t.Helper()
	want, wrong := parsed(b)
	if l, err := Parse(b); err != wrong || !slices.EqualFunc(l, want, equal) {
		t.Fatalf("Parse(%s): %s, %v, not %s, %v", brief(b), brief(l), err, brief(want), wrong)
	}
	return wrong
}

func TestParseExamples(t *testing.T) {
	var all []byte
	var requests []Request
	for _, b := range [][]byte{nil, {}} {
		if l, err := Parse(b); err != api.OK || len(l) != 0 {
			t.Error(l, err)
		}
	}
	for _, x := range examples {
		all = append(all, bytesOf(x.m)...)
		requests = append(requests, x.r)
		if l, err := Parse(all); err != api.OK || !slices.EqualFunc(l, requests, equal) {
			t.Error(l, err)
		}
	}
	b := []byte{0, 7, 16, 0, 0, 0, 1, 0, 11, 13, 0, 0, 0, 5, 0, 0, 0, 9}
	l, err := Parse(b)
	if err != api.OK || !slices.EqualFunc(l, []Request{{Op: Commit, Id: 1}, {Op: Fade, Id: 5, A: 9}}, equal) {
		t.Error(l, err)
	}
}

// TestParseCutOff cuts bytes off at each place.
func TestParseCutOff(t *testing.T) {
	var all []byte
	whole := map[int]int{}
	for i, x := range examples {
		whole[len(all)] = i
		all = append(all, bytesOf(x.m)...)
	}
	n := 0
	for at := range all {
		want := api.ErrShort
		if i, ok := whole[at]; ok {
			n, want = i, api.OK
		}
		if l, err := Parse(all[:at]); err != want || len(l) != n {
			t.Error(at, len(l), err)
		}
		checkParse(t, all[:at])
	}
}

// TestParseFirst puts what is wrong in the midst, and more of it behind.
func TestParseFirst(t *testing.T) {
	wrong := []struct {
		b    []byte
		want api.Errno
	}{
		{[]byte{0, 7, 19, 0, 0, 0, 1}, api.ErrOp},
		{[]byte{0, 7, 255, 0, 0, 0, 0}, api.ErrOp},
		{[]byte{0, 8, 13, 0, 0, 0, 1, 0}, api.ErrShort},
		{[]byte{0, 8, 16, 0, 0, 0, 1, 0}, api.ErrForm},
		{[]byte{0, 7, 16, 0, 0, 0, 0}, api.ErrRange},
		{[]byte{0, 11, 10, 0, 0, 0, 1, 0, 0, 0, 9}, api.ErrRange},
		{[]byte{0, 6, 0, 0, 0, 0, 0}, api.ErrForm},
		{[]byte{16, 8, 0, 0, 0, 0, 0}, api.ErrForm},
		{[]byte{255, 255}, api.ErrForm},
	}
	var ahead []byte
	for n, x := range examples {
		for _, w := range wrong {
			b := slices.Concat(ahead, w.b)
			if l, err := Parse(b); err != w.want || len(l) != n {
				t.Error(n, w.b, len(l), err)
			}
			for _, v := range wrong {
				more := slices.Concat(b, bytesOf(x.m), v.b)
				if l, err := Parse(more); err != w.want || len(l) != n {
					t.Error(n, w.b, v.b, len(l), err)
				}
				checkParse(t, more)
			}
			checkParse(t, append(b, 0))
		}
		ahead = append(ahead, bytesOf(x.m)...)
	}
}

func TestParseMany(t *testing.T) {
	d := dice(94)
	told := [13]int{}
	for range 20000 {
		var b []byte
		for range d.roll(8) {
			r := d.request()
			m := api.Message{Op: r.Op, Id: r.Id, Body: bodyOf(r)}
			if len(m.Body) <= 4096 {
				b = append(b, bytesOf(m)...)
			}
		}
		switch d.roll(4) {
		case 0:
			b = b[:d.roll(len(b)+1)]
		case 1:
			if len(b) > 0 {
				b[d.roll(len(b))] = byte(d.roll(30))
			}
		}
		told[checkParse(t, b)]++
	}
	for _, e := range []api.Errno{api.OK, api.ErrOp, api.ErrShort, api.ErrForm, api.ErrRange} {
		if told[e] < 100 {
			t.Error(e, told[e])
		}
	}
}

// TestParseLong parses messages as long as they may be.
func TestParseLong(t *testing.T) {
	d := dice(95)
	m := api.Message{Op: Write, Id: 1, Body: append(rectBytes(api.Rect{X1: 30, Y1: 34}), d.bytes(4080)...)}
	b := slices.Concat(bytesOf(m), bytesOf(m), []byte{0, 7, 16, 0, 0, 0, 1})
	if l, err := Parse(b); err != api.OK || len(l) != 3 || len(l[1].Data) != 4080 {
		t.Error(len(l), err)
	}
	checkParse(t, b)
	m.Body = append(m.Body, 0)
	if l, err := Parse(append(b, bytesOf(m)...)); err != api.ErrForm || len(l) != 3 {
		t.Error(len(l), err)
	}
}

// P9.3

func TestEncodedIsDecoded(t *testing.T) {
	d := dice(96)
	right := 0
	for range 60000 {
		r := d.request()
		m, err := Encode(r)
		if err != api.OK {
			continue
		}
		right++
		if got, err := Decode(m); err != api.OK || !equal(got, r) || !Same(got, r) {
			t.Fatalf("%s: %s, %v", brief(r), brief(got), err)
		}
		if l, err := Parse(bytesOf(m)); err != api.OK || len(l) != 1 || !equal(l[0], r) {
			t.Fatalf("%s: %s, %v", brief(r), brief(l), err)
		}
	}
	if right < 30000 {
		t.Error(right)
	}
}

// TestDecodedIsEncoded: what is decoded of a message that may be is encoded as it was.
func TestDecodedIsEncoded(t *testing.T) {
	d := dice(97)
	for range 60000 {
		q := d.request()
		m := api.Message{Op: q.Op, Id: q.Id, Body: bodyOf(q)}
		r, err := Decode(m)
		if err != api.OK || len(m.Body) > 4096 {
			continue
		}
		if got, err := Encode(r); err != api.OK || !equalMessage(got, m) {
			t.Fatalf("%s: %s, %v", brief(m), brief(got), err)
		}
	}
}

// R4

// TestHandedIn looks whether what is handed in stays as it is, its spare room too, and whether it is shared.
func TestHandedIn(t *testing.T) {
	room := bytes.Repeat([]byte{0xee}, 80)
	given := append(room[:0], bodyOf(right(Write))...)
	before := bytes.Clone(room)
	check := func(name string) {
		t.Helper()
		if !bytes.Equal(room, before) {
			t.Fatalf("%s changed what was handed in: %v", name, room)
		}
	}
	spoil := func(b []byte) {
		b = b[:cap(b)]
		for i := range b {
			b[i] = 77
		}
	}
	r, _ := Decode(api.Message{Op: Write, Id: 1, Body: given})
	check("Decode")
	spoil(r.Data)
	check("what Decode answered")
	r.Data = given
	m, err := Encode(r)
	check("Encode")
	spoil(m.Body)
	check("what Encode answered")
	if err != api.OK {
		t.Error(err)
	}
}

// TestParsedShareNothing spoils one request's data, and looks at what was handed in and at the others.
func TestParsedShareNothing(t *testing.T) {
	one := bytesOf(api.Message{Op: Write, Id: 1, Body: bodyOf(right(Write))})
	b := slices.Concat(one, one, one)
	before := bytes.Clone(b)
	l, err := Parse(b)
	if err != api.OK || len(l) != 3 {
		t.Fatal(l, err)
	}
	for i, r := range l {
		if !bytes.Equal(r.Data, []byte{9, 8, 7}) {
			t.Error(i, r.Data)
		}
		data := r.Data[:cap(r.Data)]
		for j := range data {
			data[j] = 77
		}
	}
	if !bytes.Equal(b, before) {
		t.Error(b)
	}
}

// TestKept looks whether an answer changes with what was handed in.
func TestKept(t *testing.T) {
	body := bodyOf(right(Write))
	text := textBytes("tea")
	r, _ := Decode(api.Message{Op: Write, Id: 1, Body: body})
	s, _ := Decode(api.Message{Op: Title, Id: 1, Body: text})
	b := bytesOf(api.Message{Op: Write, Id: 1, Body: bodyOf(right(Write))})
	l, _ := Parse(b)
	q := right(Write)
	m, _ := Encode(q)
	clear(body)
	clear(text)
	clear(b)
	clear(q.Data)
	if !bytes.Equal(r.Data, []byte{9, 8, 7}) || s.Text != "tea" || !bytes.Equal(l[0].Data, []byte{9, 8, 7}) || !bytes.HasSuffix(m.Body, []byte{9, 8, 7}) {
		t.Error(r, s, l, m)
	}
}
