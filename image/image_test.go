package image

import (
	"bytes"
	"math"
	"testing"

	"rondel/api"
)

// model is an image as the chapter's words tell it, point by point.
type model struct {
	w, h int
	at   map[api.Point]api.Color // what is not there is 0
}

func modelOf(w, h int) *model { return &model{w: w, h: h, at: map[api.Point]api.Color{}} }

func (o *model) has(x, y int) bool { return 0 <= x && x < o.w && 0 <= y && y < o.h }

// in tells whether a rectangle has a point, by the words of chapter 1.
func in(r api.Rect, x, y int) bool { return r.X0 <= x && x < r.X1 && r.Y0 <= y && y < r.Y1 }

func mayBe(c api.Color) bool { return c>>16&255 <= c>>24 && c>>8&255 <= c>>24 && c&255 <= c>>24 }

func (o *model) fill(r api.Rect, c api.Color) int {
	n := 0
	for y := range o.h {
		for x := range o.w {
			if in(r, x, y) && mayBe(c) {
				o.at[api.Point{X: x, Y: y}] = c
				n++
			}
		}
	}
	return n
}

func (o *model) copy(from *model, r api.Rect, dx, dy int) int {
	was := map[api.Point]api.Color{}
	for p, c := range from.at {
		was[p] = c
	}
	n := 0
	for y := range from.h {
		for x := range from.w {
			if in(r, x, y) && o.has(x+dx, y+dy) {
				o.at[api.Point{X: x + dx, Y: y + dy}] = was[api.Point{X: x, Y: y}]
				n++
			}
		}
	}
	return n
}

// dice is a row of numbers that is the same each time.
type dice uint64

func (d *dice) roll(n int) int {
	*d = *d*6364136223846793005 + 1442695040888963407
	return int(uint64(*d) >> 33 % uint64(n))
}

// color is one that may be.
func (d *dice) color() api.Color {
	a := d.roll(256)
	return api.Color(a<<24 | d.roll(a+1)<<16 | d.roll(a+1)<<8 | d.roll(a+1))
}

func made(t *testing.T, w, h int) *Image {
	t.Helper()
	m, e := New(w, h)
	if e != api.OK || m == nil {
		t.Fatalf("New(%d, %d): %v %v", w, h, m, e)
	}
	return m
}

// rolled is an image of other colors at each point, and its model.
func rolled(t *testing.T, d *dice, w, h int) (*Image, *model) {
	t.Helper()
	m, o := made(t, w, h), modelOf(w, h)
	for y := range h {
		for x := range w {
			c := d.color()
			if e := m.Set(x, y, c); e != api.OK {
				t.Fatalf("Set(%d, %d, %x): %v", x, y, c, e)
			}
			o.at[api.Point{X: x, Y: y}] = c
		}
	}
	return m, o
}

// held tells whether an image is its model, point by point.
func held(t *testing.T, m *Image, o *model) {
	t.Helper()
	if b := m.Box(); b != (api.Rect{X1: o.w, Y1: o.h}) {
		t.Fatalf("Box: %v", b)
	}
	for y := range o.h {
		for x := range o.w {
			if c, ok := m.At(x, y); !ok || c != o.at[api.Point{X: x, Y: y}] {
				t.Fatalf("At(%d, %d): %x %v, want %x", x, y, c, ok, o.at[api.Point{X: x, Y: y}])
			}
		}
	}
}

// rects is all rectangles of these coordinates, such too as have no points, or as may not be.
func rects(l ...int) []api.Rect {
	var out []api.Rect
	for _, x0 := range l {
		for _, y0 := range l {
			for _, x1 := range l {
				for _, y1 := range l {
					out = append(out, api.Rect{X0: x0, Y0: y0, X1: x1, Y1: y1})
				}
			}
		}
	}
	return out
}

// no are colors that may not be.
func no() []api.Color {
	return []api.Color{1, 0x100, 0x10000, 0x00ffffff, 0x80810000, 0x80008100, 0x80000081, 0xfeff0000, 0xfe00ff00, 0xfe0000ff}
}

// P4.1

func TestNew(t *testing.T) {
	for _, w := range []int{1, 2, 3, 100, 255, 256} {
		for _, h := range []int{1, 2, 3, 100, 255, 256} {
			held(t, made(t, w, h), modelOf(w, h))
		}
	}
	for _, n := range []int{math.MinInt, -256, -1, 0, 257, 1 << 20, 1 << 32, 1<<32 + 1, math.MaxInt} {
		for _, k := range []int{1, 256, 0, -1, 257, n} {
			for _, x := range [][2]int{{n, k}, {k, n}} {
				if m, e := New(x[0], x[1]); m != nil || e != api.ErrArg {
					t.Errorf("New(%d, %d): %v %v", x[0], x[1], m, e)
				}
			}
		}
	}
}

func TestAtAndSet(t *testing.T) {
	m, o := made(t, 5, 3), modelOf(5, 3)
	for i, c := range []api.Color{0x01000000, 0xffffffff, 0x80808080, 0x80800000, 0xff00ff00, 0x7f00007f} {
		x, y := i*2%5, i%3
		if e := m.Set(x, y, c); e != api.OK {
			t.Fatalf("Set(%d, %d, %x): %v", x, y, c, e)
		}
		o.at[api.Point{X: x, Y: y}] = c
		held(t, m, o)
	}
	m.Set(4, 2, 0xff010203)
	m.Set(4, 2, 0)
	delete(o.at, api.Point{X: 4, Y: 2})
	held(t, m, o)
}

func TestAtAndSetOfPointsThatItHasNot(t *testing.T) {
	d := dice(1)
	m, o := rolled(t, &d, 5, 3)
	l := []int{math.MinInt, -1 << 32, -5, -3, -1, 0, 2, 3, 4, 5, 6, 15, 256, 1 << 32, 1<<32 + 1, math.MaxInt}
	for _, x := range l {
		for _, y := range l {
			if o.has(x, y) {
				continue
			}
			if c, ok := m.At(x, y); c != 0 || ok {
				t.Errorf("At(%d, %d): %x %v", x, y, c, ok)
			}
			// ErrRange stands ahead of ErrArg.
			for _, c := range append(no(), 0, 0xffffffff) {
				if e := m.Set(x, y, c); e != api.ErrRange {
					t.Errorf("Set(%d, %d, %x): %v", x, y, c, e)
				}
			}
		}
	}
	held(t, m, o)
}

func TestSetOfColorsThatMayNotBe(t *testing.T) {
	d := dice(2)
	m, o := rolled(t, &d, 2, 2)
	for _, c := range no() {
		if e := m.Set(1, 1, c); e != api.ErrArg {
			t.Errorf("Set of %x: %v", c, e)
		}
	}
	held(t, m, o)
}

func TestFill(t *testing.T) {
	m := made(t, 3, 3)
	if n := m.Fill(api.Rect{X0: 1, Y0: 1, X1: 9, Y1: 9}, 0xffffffff); n != 4 {
		t.Errorf("the chapter's example: %d", n)
	}
	d := dice(3)
	for _, r := range rects(math.MinInt, -1, 0, 1, 3, 4, math.MaxInt) {
		m, o := rolled(t, &d, 3, 4)
		c := d.color()
		if n, want := m.Fill(r, c), o.fill(r, c); n != want {
			t.Fatalf("Fill(%v): %d, want %d", r, n, want)
		}
		held(t, m, o)
	}
}

func TestFillOfAll(t *testing.T) {
	m, o := made(t, 256, 256), modelOf(256, 256)
	all := api.Rect{X0: -api.Far, Y0: -api.Far, X1: api.Far, Y1: api.Far}
	if n := m.Fill(all, 0x12121212); n != 65536 {
		t.Errorf("%d", n)
	}
	o.fill(all, 0x12121212)
	held(t, m, o)
}

func TestFillOfColorsThatMayNotBe(t *testing.T) {
	d := dice(4)
	m, o := rolled(t, &d, 3, 3)
	for _, c := range no() {
		if n := m.Fill(m.Box(), c); n != 0 {
			t.Errorf("Fill with %x: %d", c, n)
		}
	}
	held(t, m, o)
}

func TestCopy(t *testing.T) {
	d := dice(5)
	for _, s := range [][4]int{{3, 3, 3, 3}, {4, 2, 3, 5}, {1, 1, 4, 4}, {5, 3, 2, 1}} {
		for _, r := range rects(-2, 0, 1, 3, 7) {
			for _, way := range []api.Point{{}, {X: 1}, {Y: 1}, {X: -1, Y: -1}, {X: 2, Y: -1}, {X: -2, Y: 2}, {X: 4, Y: 3}, {X: -5}, {Y: 9}} {
				from, f := rolled(t, &d, s[0], s[1])
				m, o := rolled(t, &d, s[2], s[3])
				if n, want := m.Copy(from, r, way.X, way.Y), o.copy(f, r, way.X, way.Y); n != want {
					t.Fatalf("Copy(%v, %v) of %v: %d, want %d", r, way, s, n, want)
				}
				held(t, m, o)
				held(t, from, f)
			}
		}
	}
}

// TestCopyOfItself asks for each way, as each needs its own row of what goes first.
func TestCopyOfItself(t *testing.T) {
	d := dice(6)
	for _, r := range rects(-1, 0, 1, 3, 4, 5) {
		for dx := -3; dx <= 3; dx++ {
			for dy := -3; dy <= 3; dy++ {
				m, o := rolled(t, &d, 4, 5)
				if n, want := m.Copy(m, r, dx, dy), o.copy(o, r, dx, dy); n != want {
					t.Fatalf("Copy(itself, %v, %d, %d): %d, want %d", r, dx, dy, n, want)
				}
				held(t, m, o)
			}
		}
	}
}

func TestCopyFarAway(t *testing.T) {
	d := dice(7)
	from, f := rolled(t, &d, 256, 2)
	m, o := rolled(t, &d, 256, 2)
	l := []int{math.MinInt, math.MinInt + 1, -1 << 32, -1<<20 - 1, -1 << 20, -256, 0, 256, 1 << 20, 1<<20 + 1, 1 << 32, 1 << 62, math.MaxInt - 1, math.MaxInt}
	far := api.Rect{X0: math.MinInt, Y0: math.MinInt, X1: math.MaxInt, Y1: math.MaxInt}
	for _, dx := range l {
		for _, dy := range l {
			if dx == 0 && dy == 0 {
				continue
			}
			if n := m.Copy(from, far, dx, dy); n != 0 {
				t.Errorf("Copy by %d, %d: %d", dx, dy, n)
			}
		}
	}
	held(t, m, o)
	// The ends of the ways that tell something.
	for _, dx := range []int{-255, 255} {
		for _, dy := range []int{-1, 0, 1} {
			if n, want := m.Copy(from, far, dx, dy), o.copy(f, far, dx, dy); n != want {
				t.Errorf("Copy by %d, %d: %d, want %d", dx, dy, n, want)
			}
			held(t, m, o)
		}
	}
	if n := m.Copy(from, far, 0, 0); n != 512 || !m.Same(from) {
		t.Errorf("Copy of all: %d", n)
	}
	for _, r := range rects(math.MinInt, 0, 1, math.MaxInt) {
		if n, want := m.Copy(from, r, 1, -1), o.copy(f, r, 1, -1); n != want {
			t.Errorf("Copy(%v): %d, want %d", r, n, want)
		}
	}
}

// P4.2

// bytesOf is four bytes of each color, the highest first.
func bytesOf(l ...api.Color) []byte {
	var b []byte
	for _, c := range l {
		for i := 3; i >= 0; i-- {
			b = append(b, byte(int(c)/(1<<(8*i))%256))
		}
	}
	return b
}

func TestWriteAndRead(t *testing.T) {
	m, o := made(t, 4, 3), modelOf(4, 3)
	r := api.Rect{X0: 1, Y0: 1, X1: 3, Y1: 3}
	l := []api.Color{0x44010203, 0xff808182, 0x80000080, 0x7f7f0001}
	if e := m.Write(r, bytesOf(l...)); e != api.OK {
		t.Fatal(e)
	}
	for i, p := range []api.Point{{X: 1, Y: 1}, {X: 2, Y: 1}, {X: 1, Y: 2}, {X: 2, Y: 2}} {
		o.at[p] = l[i]
	}
	held(t, m, o)
	if b, e := m.Read(r); e != api.OK || !bytes.Equal(b, bytesOf(l...)) {
		t.Errorf("Read: %v %v", b, e)
	}
	if b, e := m.Read(api.Rect{Y0: 1, X1: 2, Y1: 2}); e != api.OK || !bytes.Equal(b, []byte{0, 0, 0, 0, 0x44, 1, 2, 3}) {
		t.Errorf("Read: %v %v", b, e)
	}
}

func TestWriteAndReadOfEachRectangle(t *testing.T) {
	d := dice(8)
	for _, r := range rects(math.MinInt, -1, 0, 1, 3, 4, math.MaxInt) {
		m, o := rolled(t, &d, 3, 3)
		empty, out := true, false
		for y := -2; y < 6; y++ {
			for x := -2; x < 6; x++ {
				empty = empty && !in(r, x, y)
				out = out || in(r, x, y) && !o.has(x, y)
			}
		}
		if empty || out {
			for _, b := range [][]byte{nil, {1}, make([]byte, 4), make([]byte, 36), bytesOf(no()...)} {
				if e := m.Write(r, b); e != api.ErrRange {
					t.Fatalf("Write(%v): %v", r, e)
				}
			}
			if b, e := m.Read(r); len(b) != 0 || e != api.ErrRange {
				t.Fatalf("Read(%v): %v %v", r, b, e)
			}
			held(t, m, o)
			continue
		}
		var b []byte
		for y := r.Y0; y < r.Y1; y++ {
			for x := r.X0; x < r.X1; x++ {
				c := d.color()
				o.at[api.Point{X: x, Y: y}] = c
				b = append(b, bytesOf(c)...)
			}
		}
		was := bytes.Clone(b)
		if e := m.Write(r, b); e != api.OK || !bytes.Equal(b, was) {
			t.Fatalf("Write(%v): %v", r, e)
		}
		held(t, m, o)
		if got, e := m.Read(r); e != api.OK || !bytes.Equal(got, was) {
			t.Fatalf("Read(%v): %v %v", r, got, e)
		}
	}
}

func TestWriteOfOtherLengths(t *testing.T) {
	d := dice(9)
	m, o := rolled(t, &d, 3, 3)
	r := api.Rect{X0: 1, X1: 3, Y1: 2}
	for n := range 40 {
		want := api.OK
		if n < 16 {
			want = api.ErrShort
		}
		if n > 16 {
			want = api.ErrForm
		}
		// ErrShort and ErrForm stand ahead of ErrArg.
		for _, fill := range []byte{0, 0xff} {
			b := bytes.Repeat([]byte{fill}, n)
			if n != 16 {
				copy(b, []byte{0, 1})
			}
			if e := m.Write(r, b); e != want {
				t.Errorf("%d bytes: %v", n, e)
			}
			if want == api.OK {
				c := api.Color(0x01010101 * uint32(fill))
				o.fill(r, c)
			}
			held(t, m, o)
		}
	}
	if e := m.Write(r, nil); e != api.ErrShort {
		t.Errorf("nil: %v", e)
	}
}

func TestWriteOfColorsThatMayNotBe(t *testing.T) {
	d := dice(10)
	m, o := rolled(t, &d, 3, 3)
	for i := range 6 {
		for _, c := range no() {
			l := []api.Color{0xff000000, 0xff111111, 0xff222222, 0xff333333, 0xff444444, 0xff555555}
			l[i] = c
			if e := m.Write(api.Rect{X1: 2, Y1: 3}, bytesOf(l...)); e != api.ErrArg {
				t.Errorf("%x at %d: %v", c, i, e)
			}
			held(t, m, o)
		}
	}
}

func TestWrittenAndReadBytesAreNotShared(t *testing.T) {
	m, o := made(t, 2, 1), modelOf(2, 1)
	b := bytesOf(0xff010203, 0xff040506)
	m.Write(m.Box(), b)
	clear(b)
	o.at = map[api.Point]api.Color{{}: 0xff010203, {X: 1}: 0xff040506}
	held(t, m, o)
	l, _ := m.Read(m.Box())
	clear(l[:cap(l)])
	held(t, m, o)
	if l, _ := m.Read(m.Box()); !bytes.Equal(l, bytesOf(0xff010203, 0xff040506)) {
		t.Errorf("%v", l)
	}
	// Spare room of what is handed in is left alone.
	room := append(make([]byte, 0, 16), bytesOf(0xff070809, 0xff0a0b0c, 0x11111111, 0x12121212)...)
	m.Write(m.Box(), room[:8])
	if !bytes.Equal(room[8:16], bytesOf(0x11111111, 0x12121212)) {
		t.Errorf("%v", room)
	}
}

// P4.3

func TestClone(t *testing.T) {
	d := dice(11)
	m, o := rolled(t, &d, 5, 4)
	n := m.Clone()
	held(t, n, o)
	p := modelOf(5, 4)
	n.Fill(n.Box(), 0x22222222)
	p.fill(n.Box(), 0x22222222)
	held(t, n, p)
	held(t, m, o)
	m.Set(1, 1, 0x33333333)
	held(t, n, p)
}

func TestSame(t *testing.T) {
	d := dice(12)
	m, _ := rolled(t, &d, 4, 3)
	n := m.Clone()
	if !m.Same(m) || !m.Same(n) || !n.Same(m) {
		t.Error("a clone is not the same")
	}
	for y := range 3 {
		for x := range 4 {
			was, _ := n.At(x, y)
			n.Set(x, y, was^0xff000000&(was<<8|0x01000000)) // any other
			if c, _ := n.At(x, y); c == was {
				n.Set(x, y, 0)
			}
			if c, _ := n.At(x, y); c == was {
				n.Set(x, y, 0xffffffff)
			}
			if m.Same(n) || n.Same(m) {
				t.Errorf("another color at %d, %d", x, y)
			}
			n.Set(x, y, was)
			if !m.Same(n) {
				t.Errorf("as it was at %d, %d", x, y)
			}
		}
	}
	// Of other boxes with as many points, all of one color.
	for i, x := range [][4]int{{2, 6, 3, 4}, {3, 4, 4, 3}, {1, 12, 12, 1}, {2, 2, 2, 3}, {2, 2, 3, 2}, {1, 1, 1, 2}} {
		a, b := made(t, x[0], x[1]), made(t, x[2], x[3])
		if a.Same(b) || b.Same(a) {
			t.Errorf("%d: other boxes", i)
		}
	}
	if !made(t, 2, 3).Same(made(t, 2, 3)) {
		t.Error("two new ones")
	}
}

func TestSolid(t *testing.T) {
	m := made(t, 3, 3)
	if m.Solid(m.Box()) {
		t.Error("all are 0")
	}
	for y := range 3 {
		for x := range 3 {
			for _, c := range []api.Color{0, 0xfe000000, 0xfefefefe} {
				m.Fill(m.Box(), 0xff000000)
				m.Set(x, y, c)
				for _, r := range rects(math.MinInt, -1, 0, 1, 2, 3, math.MaxInt) {
					// Of no points, all are solid.
					if got := m.Solid(r); got == in(r, x, y) {
						t.Fatalf("Solid(%v), %x at %d, %d: %v", r, c, x, y, got)
					}
				}
			}
		}
	}
}

func TestRows(t *testing.T) {
	d := dice(13)
	for _, s := range [][2]int{{1, 1}, {4, 3}, {1, 256}, {256, 1}} {
		m, o := rolled(t, &d, s[0], s[1])
		rows := m.Rows()
		for range 2 {
			next := 0
			for y, row := range rows {
				if y != next || len(row) != s[0] {
					t.Fatalf("row %d of %v, want %d", y, row, next)
				}
				next++
				for x, c := range row {
					if c != o.at[api.Point{X: x, Y: y}] {
						t.Fatalf("at %d, %d: %x", x, y, c)
					}
				}
				// A row that is told is the asker's own.
				for x := range row {
					row[x] = 0x55555555
				}
				_ = append(row, 0x55555555)
			}
			if next != s[1] {
				t.Fatalf("%d rows of %v", next, s)
			}
		}
		held(t, m, o)
	}
}

func TestRowsAreEndedByTheAsker(t *testing.T) {
	m := made(t, 2, 9)
	for stop := range 9 {
		n := 0
		for y := range m.Rows() {
			n++
			if y == stop {
				break
			}
		}
		if n != stop+1 {
			t.Errorf("ended at %d: %d rows", stop, n)
		}
	}
}

// TestRowsAreThoseOfTheCall: what a call answers hangs on what the image was told before.
func TestRowsAreThoseOfTheCall(t *testing.T) {
	m := made(t, 2, 3)
	m.Fill(m.Box(), 0x11111111)
	rows := m.Rows()
	m.Fill(m.Box(), 0x22222222)
	for y, row := range rows {
		if row[0] != 0x11111111 || row[1] != 0x11111111 {
			t.Errorf("row %d: %x", y, row)
		}
		m.Fill(m.Box(), 0x33333333)
	}
}

// P4.4

func TestWhatIsWrittenIsRead(t *testing.T) {
	d := dice(14)
	for range 50 {
		w, h := 1+d.roll(256), 1+d.roll(256)
		m, o := rolled(t, &d, w, h)
		r := api.Rect{X0: d.roll(w), Y0: d.roll(h)}
		r.X1, r.Y1 = r.X0+1+d.roll(w-r.X0), r.Y0+1+d.roll(h-r.Y0)
		var b []byte
		for y := r.Y0; y < r.Y1; y++ {
			for x := r.X0; x < r.X1; x++ {
				c := d.color()
				o.at[api.Point{X: x, Y: y}] = c
				b = append(b, bytesOf(c)...)
			}
		}
		if e := m.Write(r, b); e != api.OK {
			t.Fatalf("Write(%v): %v", r, e)
		}
		if got, e := m.Read(r); e != api.OK || !bytes.Equal(got, b) {
			t.Fatalf("Read(%v): %v", r, e)
		}
		held(t, m, o)
	}
}

func TestWhatIsCopiedIsToldThere(t *testing.T) {
	d := dice(15)
	for i := range 50 {
		from, f := rolled(t, &d, 1+d.roll(256), 1+d.roll(256))
		m, o := rolled(t, &d, 1+d.roll(256), 1+d.roll(256))
		if i%2 == 0 {
			from, f = m, o
		}
		r := api.Rect{X0: d.roll(300) - 20, Y0: d.roll(300) - 20, X1: d.roll(300) - 20, Y1: d.roll(300) - 20}
		dx, dy := d.roll(100)-50, d.roll(100)-50
		if n, want := m.Copy(from, r, dx, dy), o.copy(f, r, dx, dy); n != want {
			t.Fatalf("Copy(%v, %d, %d): %d, want %d", r, dx, dy, n, want)
		}
		held(t, m, o)
		held(t, from, f)
	}
}
