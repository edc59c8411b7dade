package paint

import (
	"math"
	"slices"
	"testing"

	"rondel/api"
	"rondel/image"
	"rondel/region"
)

const far = 1 << 20

func of(x0, y0, x1, y1 int) api.Rect { return api.Rect{X0: x0, Y0: y0, X1: x1, Y1: y1} }

func list(l ...api.Rect) []api.Rect { return l }

// everywhere has each point that an int can tell, but such as are MaxInt.
func everywhere() api.Rect { return of(math.MinInt, math.MinInt, math.MaxInt, math.MaxInt) }

// dice is a row of numbers that is the same each time.
type dice uint64

func (d *dice) roll(n int) int {
	*d = *d*6364136223846793005 + 1442695040888963407
	return int(uint64(*d) >> 33 % uint64(n))
}

// color is one that may be; of three one is solid, one is 0 or nearly so.
func (d *dice) color() api.Color {
	a := d.roll(256)
	switch d.roll(3) {
	case 0:
		a = 255
	case 1:
		a = d.roll(2)
	}
	return api.Color(a<<24 | d.roll(a+1)<<16 | d.roll(a+1)<<8 | d.roll(a+1))
}

// rect is any one near 0: now and then such as has no points, or may not be.
func (d *dice) rect(n int) api.Rect {
	r := of(d.roll(n)-n/3, d.roll(n)-n/3, d.roll(n)-n/3, d.roll(n)-n/3)
	if d.roll(5) > 0 {
		r = of(min(r.X0, r.X1), min(r.Y0, r.Y1), max(r.X0, r.X1)+1, max(r.Y0, r.Y1)+1)
	}
	return r
}

func (d *dice) rects(n int) []api.Rect {
	l := make([]api.Rect, d.roll(5))
	for i := range l {
		l[i] = d.rect(n)
	}
	return l
}

// layer is one that may be, near 0.
func (d *dice) layer(t *testing.T) Layer {
	t.Helper()
	l := Layer{
		Image: d.image(t, 1+d.roll(5), 1+d.roll(5)),
		At:    api.Point{X: d.roll(20) - 12, Y: d.roll(20) - 12},
		Scale: 1 + d.roll(8),
		Alpha: []int{255, 255, 0, 1, 128, 254}[d.roll(6)],
		Clip:  everywhere(),
	}
	if d.roll(3) == 0 {
		l.Clip = d.rect(9)
	}
	return l
}

func (d *dice) image(t *testing.T, w, h int) *image.Image {
	t.Helper()
	m := made(t, w, h)
	for y := range h {
		for x := range w {
			set(t, m, x, y, d.color())
		}
	}
	return m
}

func made(t *testing.T, w, h int) *image.Image {
	t.Helper()
	m, e := image.New(w, h)
	if e != api.OK {
		t.Fatal(e)
	}
	return m
}

func set(t *testing.T, m *image.Image, x, y int, c api.Color) {
	t.Helper()
	if e := m.Set(x, y, c); e != api.OK {
		t.Fatalf("Set(%d, %d, %x): %v", x, y, c, e)
	}
}

// What follows is the words of the chapters, point by point.

func in(r api.Rect, x, y int) bool { return r.X0 <= x && x < r.X1 && r.Y0 <= y && y < r.Y1 }

func inOne(l []api.Rect, x, y int) bool {
	return slices.ContainsFunc(l, func(r api.Rect) bool { return in(r, x, y) })
}

// down is a divided by b, rounded down.
func down(a, b int) int {
	q := a / b
	for q*b > a {
		q--
	}
	return q
}

// shown is the point of its image that a point of a canvas shows, and whether it shows one.
func shown(l Layer, x, y int) (api.Point, bool) {
	p := api.Point{X: down(x-l.At.X, l.Scale), Y: down(y-l.At.Y, l.Scale)}
	_, has := l.Image.At(p.X, p.Y)
	return p, has && in(l.Clip, p.X, p.Y)
}

func parts(c api.Color) [4]int {
	return [4]int{int(c >> 24), int(c >> 16 & 255), int(c >> 8 & 255), int(c & 255)}
}

func colorOf(p [4]int) api.Color { return api.Color(p[0]<<24 | p[1]<<16 | p[2]<<8 | p[3]) }

func faded(c api.Color, alpha int) api.Color {
	p := parts(c)
	for i := range p {
		p[i] = (p[i]*alpha + 127) / 255
	}
	return colorOf(p)
}

func over(c, d api.Color) api.Color {
	p, q := parts(c), parts(d)
	for i := range q {
		q[i] = min(255, p[i]+(q[i]*(255-p[0])+127)/255)
	}
	return colorOf(q)
}

func colorThere(l Layer, x, y int) (api.Color, bool) {
	p, ok := shown(l, x, y)
	if !ok {
		return 0, false
	}
	c, _ := l.Image.At(p.X, p.Y)
	return faded(c, l.Alpha), true
}

// span is a stretch of Xs, or of Ys, that holds all that a layer of the dice's shows, and more.
const span = 60

// told holds a region against what it must have, point by point.
func told(t *testing.T, what string, got []api.Rect, want func(x, y int) bool) {
	t.Helper()
	if !region.May(got) {
		t.Fatalf("%s: %v is no region", what, got)
	}
	n := 0
	for y := -span; y < span; y++ {
		for x := -span; x < span; x++ {
			w := want(x, y)
			if w {
				n++
			}
			if w != inOne(got, x, y) {
				t.Fatalf("%s: %v: the point %d, %d: %v", what, got, x, y, !w)
			}
		}
	}
	if region.Area(got) != n {
		t.Fatalf("%s: %v has more than %d points", what, got, n)
	}
}

// same holds an image against what it must show, point by point.
func same(t *testing.T, what string, m *image.Image, want func(x, y int) api.Color) {
	t.Helper()
	for y := range m.Box().Y1 {
		for x := range m.Box().X1 {
			if c, _ := m.At(x, y); c != want(x, y) {
				t.Fatalf("%s: at %d, %d: %x, want %x", what, x, y, c, want(x, y))
			}
		}
	}
}

// P5.1

func TestMay(t *testing.T) {
	m := made(t, 3, 2)
	with := func(change func(l *Layer)) Layer {
		l := Layer{Image: m, Scale: 1, Alpha: 255}
		change(&l)
		return l
	}
	for i, x := range []struct {
		l    Layer
		want bool
	}{
		{Layer{}, false},
		{with(func(l *Layer) {}), true},
		{with(func(l *Layer) { l.Image = nil }), false},
		{with(func(l *Layer) { l.Scale = 0 }), false},
		{with(func(l *Layer) { l.Scale = -1 }), false},
		{with(func(l *Layer) { l.Scale = 8 }), true},
		{with(func(l *Layer) { l.Scale = 9 }), false},
		{with(func(l *Layer) { l.Scale = math.MinInt }), false},
		{with(func(l *Layer) { l.Scale = math.MaxInt }), false},
		{with(func(l *Layer) { l.Scale = 1<<32 + 1 }), false},
		{with(func(l *Layer) { l.Alpha = -1 }), false},
		{with(func(l *Layer) { l.Alpha = 0 }), true},
		{with(func(l *Layer) { l.Alpha = 256 }), false},
		{with(func(l *Layer) { l.Alpha = math.MinInt }), false},
		{with(func(l *Layer) { l.Alpha = math.MaxInt }), false},
		// The clip is any rectangle.
		{with(func(l *Layer) { l.Clip = everywhere() }), true},
		{with(func(l *Layer) { l.Clip = of(9, 9, -9, -9) }), true},
		{with(func(l *Layer) { l.Clip = of(math.MaxInt, math.MaxInt, math.MinInt, math.MinInt) }), true},
		// The place, and where the box ends.
		{with(func(l *Layer) { l.At = api.Point{X: -far, Y: -far} }), true},
		{with(func(l *Layer) { l.At.X = -far - 1 }), false},
		{with(func(l *Layer) { l.At.Y = -far - 1 }), false},
		{with(func(l *Layer) { l.At = api.Point{X: far - 3, Y: far - 2} }), true},
		{with(func(l *Layer) { l.At.X = far - 2 }), false},
		{with(func(l *Layer) { l.At.Y = far - 1 }), false},
		{with(func(l *Layer) { l.At.X = far }), false},
		{with(func(l *Layer) { l.At = api.Point{X: far - 24, Y: far - 16}; l.Scale = 8 }), true},
		{with(func(l *Layer) { l.At.X = far - 23; l.Scale = 8 }), false},
		{with(func(l *Layer) { l.At.Y = far - 15; l.Scale = 8 }), false},
		// The box counts, not what is left of it by the clip.
		{with(func(l *Layer) { l.At.X = far - 2; l.Clip = of(0, 0, 1, 1) }), false},
		{with(func(l *Layer) { l.At.X = math.MinInt }), false},
		{with(func(l *Layer) { l.At.Y = math.MinInt }), false},
		{with(func(l *Layer) { l.At.X = math.MaxInt }), false},
		{with(func(l *Layer) { l.At.Y = math.MaxInt - 1 }), false},
		{with(func(l *Layer) { l.At.X = 1 << 32 }), false},
	} {
		if got := May(x.l); got != x.want {
			t.Errorf("%d: May(%+v): %v", i, x.l, got)
		}
	}
}

func TestMayOfEachScaleAndAlpha(t *testing.T) {
	m := made(t, 256, 256)
	for scale := -9; scale <= 20; scale++ {
		for alpha := -300; alpha <= 600; alpha++ {
			want := 1 <= scale && scale <= 8 && 0 <= alpha && alpha <= 255
			if got := May(Layer{Image: m, Scale: scale, Alpha: alpha}); got != want {
				t.Fatalf("scale %d, alpha %d: %v", scale, alpha, got)
			}
		}
	}
	for scale := 1; scale <= 8; scale++ {
		end := far - 256*scale
		for _, x := range []struct {
			at   api.Point
			want bool
		}{{api.Point{X: end, Y: end}, true}, {api.Point{X: end + 1, Y: end}, false}, {api.Point{X: end, Y: end + 1}, false}} {
			if got := May(Layer{Image: m, At: x.at, Scale: scale}); got != x.want {
				t.Fatalf("scale %d, at %v: %v", scale, x.at, got)
			}
		}
	}
}

func TestBox(t *testing.T) {
	two := made(t, 2, 2)
	if got := Box(Layer{Image: two, At: api.Point{X: 3, Y: 3}, Scale: 2, Alpha: 255, Clip: everywhere()}); got != of(3, 3, 7, 7) {
		t.Errorf("the chapter's example: %v", got)
	}
	m := made(t, 4, 3)
	for i, x := range []struct {
		at         api.Point
		scale      int
		clip, want api.Rect
	}{
		{api.Point{}, 1, of(0, 0, 4, 3), of(0, 0, 4, 3)},
		{api.Point{}, 1, of(-9, -9, 9, 9), of(0, 0, 4, 3)},
		{api.Point{X: -5, Y: 7}, 3, everywhere(), of(-5, 7, 7, 16)},
		{api.Point{X: -5, Y: 7}, 3, of(1, 1, 2, 3), of(-2, 10, 1, 16)},
		{api.Point{X: -5, Y: 7}, 3, of(-1, 2, 3, 99), of(-5, 13, 4, 16)},
		{api.Point{X: -far, Y: -far}, 8, everywhere(), of(-far, -far, -far+32, -far+24)},
		{api.Point{X: far - 32, Y: far - 24}, 8, everywhere(), of(far-32, far-24, far, far)},
		// No point of it is shown: the zero one, wherever it is.
		{api.Point{X: 9, Y: 9}, 2, api.Rect{}, api.Rect{}},
		{api.Point{X: 9, Y: 9}, 2, of(1, 1, 1, 3), api.Rect{}},
		{api.Point{X: 9, Y: 9}, 2, of(3, 3, 1, 1), api.Rect{}},
		{api.Point{X: 9, Y: 9}, 2, of(4, 0, 9, 9), api.Rect{}},
		{api.Point{X: 9, Y: 9}, 2, of(0, 3, 9, 9), api.Rect{}},
		{api.Point{X: 9, Y: 9}, 2, of(-5, -5, 0, 0), api.Rect{}},
	} {
		// The alpha changes nothing of where it is shown.
		for _, alpha := range []int{0, 1, 255} {
			if got := Box(Layer{Image: m, At: x.at, Scale: x.scale, Alpha: alpha, Clip: x.clip}); got != x.want {
				t.Errorf("%d: %v, want %v", i, got, x.want)
			}
		}
	}
}

func TestBoxAndColor(t *testing.T) {
	d := dice(1)
	for range 400 {
		l := d.layer(t)
		told(t, "Box", region.Of(Box(l)), func(x, y int) bool { _, ok := shown(l, x, y); return ok })
		for y := -span; y < span; y++ {
			for x := -span; x < span; x++ {
				want, is := colorThere(l, x, y)
				if c, ok := Color(l, x, y); c != want || ok != is {
					t.Fatalf("%+v: Color(%d, %d): %x %v, want %x %v", l, x, y, c, ok, want, is)
				}
			}
		}
	}
}

// TestColorIsRoundedDown asks just round the place: what is left of it, or above it, is of no point, not of the first.
func TestColorIsRoundedDown(t *testing.T) {
	m := made(t, 1, 1)
	set(t, m, 0, 0, 0xff123456)
	for scale := 1; scale <= 8; scale++ {
		for _, at := range []int{-far, -9, -1, 0, 1, 5, far - 8} {
			l := Layer{Image: m, At: api.Point{X: at, Y: at}, Scale: scale, Alpha: 255, Clip: everywhere()}
			for k := -20; k <= 20; k++ {
				want := 0 <= k && k < scale
				if c, ok := Color(l, at+k, at); ok != want || ok && c != 0xff123456 || !ok && c != 0 {
					t.Errorf("scale %d at %d: %d along X: %x %v", scale, at, k, c, ok)
				}
				if c, ok := Color(l, at, at+k); ok != want || ok && c != 0xff123456 || !ok && c != 0 {
					t.Errorf("scale %d at %d: %d along Y: %x %v", scale, at, k, c, ok)
				}
			}
		}
	}
}

func TestColorFarAway(t *testing.T) {
	d := dice(2)
	ends := []int{-1 << 40, -1<<40 + 1, -1 << 32, -far, far, 1 << 32, 1<<32 + 1, 1<<40 - 1, 1 << 40}
	for _, at := range []int{-far, 0, far - 40} {
		l := Layer{Image: d.image(t, 5, 5), At: api.Point{X: at, Y: at}, Scale: 8, Alpha: 255, Clip: everywhere()}
		for _, x := range append([]int{at + 3}, ends...) {
			for _, y := range append([]int{at + 39}, ends...) {
				want, is := colorThere(l, x, y)
				if c, ok := Color(l, x, y); c != want || ok != is {
					t.Errorf("at %d: Color(%d, %d): %x %v", at, x, y, c, ok)
				}
			}
		}
	}
}

// TestColorIsFaded asks for each alpha; of the alpha 0 there is a color still: 0.
func TestColorIsFaded(t *testing.T) {
	m := made(t, 2, 1)
	set(t, m, 0, 0, 0xffff8001)
	set(t, m, 1, 0, 0x80407f00)
	for alpha := range 256 {
		l := Layer{Image: m, Scale: 1, Alpha: alpha, Clip: everywhere()}
		for x, c := range []api.Color{0xffff8001, 0x80407f00} {
			if got, ok := Color(l, x, 0); got != faded(c, alpha) || !ok {
				t.Errorf("alpha %d of %x: %x %v", alpha, c, got, ok)
			}
		}
	}
	if c, ok := Color(Layer{Image: m, Scale: 1, Clip: everywhere()}, 0, 0); c != 0 || !ok {
		t.Errorf("alpha 0: %x %v", c, ok)
	}
	if c, ok := Color(Layer{Image: m, Scale: 1, Alpha: 128, Clip: everywhere()}, 0, 0); c != 0x80804001 || !ok {
		t.Errorf("alpha 128: %x %v", c, ok)
	}
}

// P5.2

// drawn holds a Draw against the words: each point once, all else as it was.
func drawn(t *testing.T, to *image.Image, l Layer, where []api.Rect) {
	t.Helper()
	was, own := to.Clone(), l.Image.Clone()
	n := Draw(to, l, where)
	l.Image = own
	want := 0
	same(t, "Draw", to, func(x, y int) api.Color {
		c, _ := was.At(x, y)
		if f, ok := colorThere(l, x, y); ok && inOne(where, x, y) {
			want++
			return over(f, c)
		}
		return c
	})
	if n != want {
		t.Fatalf("Draw(%+v, %v): %d, want %d", l, where, n, want)
	}
}

func TestDraw(t *testing.T) {
	m := made(t, 2, 1)
	set(t, m, 0, 0, 0x80800000)
	set(t, m, 1, 0, 0xff00ff00)
	to := made(t, 5, 4)
	to.Fill(to.Box(), 0xffffffff)
	l := Layer{Image: m, At: api.Point{X: -1, Y: 1}, Scale: 2, Alpha: 255, Clip: everywhere()}
	if n := Draw(to, l, list(of(0, 1, 2, 4), of(1, 0, 2, 3))); n != 4 {
		t.Errorf("%d", n)
	}
	same(t, "Draw", to, func(x, y int) api.Color {
		switch {
		case x == 0 && (y == 1 || y == 2):
			return 0xffff7f7f
		case x == 1 && (y == 1 || y == 2):
			return 0xff00ff00
		}
		return 0xffffffff
	})
	for _, where := range [][]api.Rect{nil, {}, list(api.Rect{}), list(of(3, 3, 1, 1)), list(of(3, 0, 5, 4)), list(of(-9, -9, 0, 9))} {
		if n := Draw(to, l, where); n != 0 {
			t.Errorf("Draw of %v: %d", where, n)
		}
	}
}

func TestDrawByWords(t *testing.T) {
	d := dice(3)
	for range 3000 {
		l, to := d.layer(t), d.image(t, 1+d.roll(16), 1+d.roll(16))
		own := l.Image.Clone()
		drawn(t, to, l, d.rects(20))
		if !l.Image.Same(own) {
			t.Fatal("the layer's image is another one")
		}
	}
}

// TestDrawOnce hands in rectangles that are over one another: a color that isn't solid tells how often it was drawn.
func TestDrawOnce(t *testing.T) {
	m := made(t, 4, 4)
	m.Fill(m.Box(), 0x40404040)
	l := Layer{Image: m, Scale: 1, Alpha: 200, Clip: everywhere()}
	for _, where := range [][]api.Rect{
		list(of(0, 0, 4, 4), of(0, 0, 4, 4)),
		list(of(0, 0, 3, 3), of(1, 1, 4, 4), of(2, 0, 3, 4), of(0, 2, 4, 3)),
		list(everywhere(), of(-far, -far, far, far), of(1, 1, 2, 2)),
	} {
		drawn(t, made(t, 4, 4), l, where)
	}
}

func TestDrawOfWhereAtTheEnds(t *testing.T) {
	d := dice(4)
	ends := []int{math.MinInt, -far, 0, 2, far, math.MaxInt}
	for range 2000 {
		where := make([]api.Rect, 1+d.roll(4))
		for i := range where {
			where[i] = of(ends[d.roll(6)], ends[d.roll(6)], ends[d.roll(6)], ends[d.roll(6)])
		}
		drawn(t, d.image(t, 1+d.roll(5), 1+d.roll(5)), d.layer(t), where)
	}
}

// TestDrawOnItself draws images on themselves: each point's color is the one that it had at first.
func TestDrawOnItself(t *testing.T) {
	d := dice(5)
	for range 2000 {
		l := d.layer(t)
		l.Image = d.image(t, 1+d.roll(9), 1+d.roll(9))
		drawn(t, l.Image, l, append(d.rects(9), everywhere()))
	}
}

func TestDrawOfAll(t *testing.T) {
	d := dice(6)
	to, m := d.image(t, 256, 256), d.image(t, 256, 256)
	drawn(t, to, Layer{Image: m, Scale: 1, Alpha: 77, Clip: everywhere()}, list(everywhere()))
	drawn(t, to, Layer{Image: m, At: api.Point{X: -1000, Y: -900}, Scale: 8, Alpha: 255, Clip: everywhere()}, list(everywhere()))
}

func TestClear(t *testing.T) {
	d := dice(7)
	for range 3000 {
		to, where, c := d.image(t, 1+d.roll(16), 1+d.roll(16)), d.rects(20), d.color()
		was := to.Clone()
		n, want := Clear(to, where, c), 0
		same(t, "Clear", to, func(x, y int) api.Color {
			if inOne(where, x, y) {
				want++
				return c
			}
			old, _ := was.At(x, y)
			return old
		})
		if n != want {
			t.Fatalf("Clear(%v): %d, want %d", where, n, want)
		}
	}
	to := d.image(t, 4, 4)
	if n := Clear(to, list(everywhere(), of(0, 0, 2, 2), of(math.MaxInt, 0, math.MinInt, 9)), 0); n != 16 || !to.Same(made(t, 4, 4)) {
		t.Errorf("Clear of all: %d", n)
	}
	for _, where := range [][]api.Rect{nil, {}, list(api.Rect{}), list(of(4, 0, 9, 9))} {
		if n := Clear(to, where, 0xffffffff); n != 0 || !to.Same(made(t, 4, 4)) {
			t.Errorf("Clear of %v: %d", where, n)
		}
	}
}

func TestClearToColorsThatMayNotBe(t *testing.T) {
	d := dice(8)
	to := d.image(t, 4, 4)
	was := to.Clone()
	for _, c := range []api.Color{1, 0x100, 0x10000, 0x00ffffff, 0x80810000, 0x80008100, 0x80000081, 0xfe0000ff} {
		if n := Clear(to, list(everywhere(), of(0, 0, 2, 2)), c); n != 0 || !to.Same(was) {
			t.Errorf("Clear to %x: %d", c, n)
		}
	}
}

func TestPixel(t *testing.T) {
	if c := Pixel(0x80402010); c != 0x80402010 {
		t.Errorf("none over it: %x", c)
	}
	if c := Pixel(0xffffffff, 0x80800000); c != 0xffff7f7f {
		t.Errorf("half of red over white: %x", c)
	}
	// The row counts: what stands last is on top.
	if c := Pixel(0xffffffff, 0xff0000ff, 0x80800000); c != over(0x80800000, 0xff0000ff) {
		t.Errorf("red on top: %x", c)
	}
	if c := Pixel(0xffffffff, 0x80800000, 0xff0000ff); c != 0xff0000ff {
		t.Errorf("blue on top: %x", c)
	}
	d := dice(9)
	for range 5000 {
		c, l := d.color(), make([]api.Color, d.roll(6))
		want := c
		for i := range l {
			l[i] = d.color()
			want = over(l[i], want)
		}
		was := slices.Clone(l)
		if got := Pixel(c, l...); got != want || !slices.Equal(l, was) {
			t.Fatalf("Pixel(%x, %x): %x, want %x", c, l, got, want)
		}
	}
}

// P5.3

func TestPlace(t *testing.T) {
	l := Layer{Image: made(t, 4, 3), At: api.Point{X: 10, Y: -10}, Scale: 3, Clip: everywhere()}
	for i, x := range []struct {
		clip        api.Rect
		where, want []api.Rect
	}{
		{everywhere(), nil, nil},
		{everywhere(), list(of(0, 0, 4, 3)), list(of(10, -10, 22, -1))},
		{everywhere(), list(everywhere(), of(1, 1, 2, 2)), list(of(10, -10, 22, -1))},
		{everywhere(), list(of(1, 1, 2, 2), of(-9, 2, 1, 9)), list(of(13, -7, 16, -4), of(10, -4, 13, -1))},
		{everywhere(), list(of(2, 0, 4, 3), of(0, 0, 2, 3)), list(of(10, -10, 22, -1))},
		{everywhere(), list(of(4, 3, 9, 9), of(3, 3, 1, 1), of(-1, -1, 0, 0)), nil},
		{of(1, 0, 9, 2), list(of(0, 0, 4, 3)), list(of(13, -10, 22, -4))},
		{api.Rect{}, list(of(0, 0, 4, 3)), nil},
	} {
		l.Clip = x.clip
		if got := Place(l, x.where); !slices.Equal(got, x.want) {
			t.Errorf("%d: Place(%v): %v, want %v", i, x.where, got, x.want)
		}
	}
}

func TestPlaceAndSolidByWords(t *testing.T) {
	d := dice(10)
	for range 1500 {
		l, where := d.layer(t), d.rects(9)
		told(t, "Place", Place(l, where), func(x, y int) bool {
			p, ok := shown(l, x, y)
			return ok && inOne(where, p.X, p.Y)
		})
		told(t, "Solid", Solid(l, where), func(x, y int) bool {
			p, ok := shown(l, x, y)
			c, _ := l.Image.At(p.X, p.Y)
			return ok && inOne(where, p.X, p.Y) && c>>24 == 255 && l.Alpha == 255
		})
	}
}

func TestPlaceAndSolidAtTheEnds(t *testing.T) {
	m := made(t, 2, 2)
	m.Fill(m.Box(), 0xff000000)
	for _, at := range []api.Point{{X: -far, Y: -far}, {X: far - 16, Y: far - 16}, {X: -far, Y: far - 16}} {
		l := Layer{Image: m, At: at, Scale: 8, Alpha: 255, Clip: everywhere()}
		want := list(of(at.X, at.Y, at.X+16, at.Y+16))
		for _, where := range [][]api.Rect{list(everywhere()), list(of(-far, -far, far, far)), list(of(math.MinInt, 0, 1, math.MaxInt), of(1, math.MinInt, math.MaxInt, 2))} {
			if got := Place(l, where); !slices.Equal(got, want) {
				t.Errorf("Place at %v: %v", at, got)
			}
			if got := Solid(l, where); !slices.Equal(got, want) {
				t.Errorf("Solid at %v: %v", at, got)
			}
		}
	}
}

func TestSolid(t *testing.T) {
	m := made(t, 4, 2)
	for i, c := range []api.Color{0xff000000, 0xffffffff, 0xfe000000, 0xff010203, 0, 0xff000000, 0xff0000ff, 0xfefefefe} {
		set(t, m, i%4, i/4, c)
	}
	l := Layer{Image: m, At: api.Point{X: 1, Y: 2}, Scale: 2, Alpha: 255, Clip: everywhere()}
	all := list(of(0, 0, 4, 2))
	want := list(of(1, 2, 5, 4), of(7, 2, 9, 4), of(3, 4, 7, 6))
	if got := Solid(l, all); !slices.Equal(got, want) {
		t.Errorf("%v, want %v", got, want)
	}
	if got := Solid(l, list(of(1, 0, 2, 2), of(0, 0, 2, 1))); !slices.Equal(got, list(of(1, 2, 5, 4), of(3, 4, 5, 6))) {
		t.Errorf("some: %v", got)
	}
	// One row's solid points end where those of the next one begin.
	corner := made(t, 2, 2)
	set(t, corner, 0, 0, 0xff000000)
	set(t, corner, 1, 1, 0xff000000)
	if got := Solid(Layer{Image: corner, Scale: 1, Alpha: 255, Clip: everywhere()}, all); !slices.Equal(got, list(of(0, 0, 1, 1), of(1, 1, 2, 2))) {
		t.Errorf("a corner: %v", got)
	}
	l.Clip = of(1, 0, 3, 1)
	if got := Solid(l, all); !slices.Equal(got, list(of(3, 2, 5, 4))) {
		t.Errorf("clipped: %v", got)
	}
	l.Clip = everywhere()
	for alpha := range 255 {
		l.Alpha = alpha
		if got := Solid(l, all); len(got) != 0 {
			t.Errorf("alpha %d: %v", alpha, got)
		}
	}
}

// TestSolidOfMuch asks for an image with as many solid points, apart from one another, as there can be.
func TestSolidOfMuch(t *testing.T) {
	m := made(t, 256, 256)
	for y := range 256 {
		for x := range 256 {
			if (x+y)%2 == 0 {
				set(t, m, x, y, 0xffffffff)
			}
		}
	}
	l := Layer{Image: m, Scale: 8, Alpha: 255, Clip: everywhere()}
	got := Solid(l, list(everywhere()))
	if len(got) != 128*256 || region.Area(got) != 64*128*256 || !region.May(got) || got[0] != of(0, 0, 8, 8) || got[128] != of(8, 8, 16, 16) {
		t.Errorf("%d rectangles", len(got))
	}
	m.Fill(m.Box(), 0xff000000)
	if got := Solid(l, list(everywhere())); !slices.Equal(got, list(of(0, 0, 2048, 2048))) {
		t.Errorf("all: %v", got)
	}
}

// P5.4

func TestDrawnByPartsIsDrawnAsAtOnce(t *testing.T) {
	d := dice(11)
	for range 1000 {
		l, at := d.layer(t), d.image(t, 1+d.roll(16), 1+d.roll(16))
		where := d.rects(20)
		once, parts := at.Clone(), at.Clone()
		n := Draw(once, l, where)
		for _, r := range region.Of(where...) {
			// A part is cut again, anywhere, or not at all.
			x, y := r.X0+d.roll(r.X1-r.X0+1), r.Y0+d.roll(r.Y1-r.Y0+1)
			for _, p := range list(of(x, y, r.X1, r.Y1), of(r.X0, r.Y0, x, y), of(x, r.Y0, r.X1, y), of(r.X0, y, x, r.Y1)) {
				n -= Draw(parts, l, list(p))
			}
		}
		if n != 0 || !parts.Same(once) {
			t.Fatalf("%+v: %v: %d more at once", l, where, n)
		}
	}
}

// TestWhatPlaceDoesNotTellIsNotChanged changes an image at points of where alone, and looks for what is shown otherwise.
func TestWhatPlaceDoesNotTellIsNotChanged(t *testing.T) {
	d := dice(12)
	for range 500 {
		l, where := d.layer(t), d.rects(9)
		o := l
		o.Image = l.Image.Clone()
		for y := range l.Image.Box().Y1 {
			for x := range l.Image.Box().X1 {
				if inOne(where, x, y) {
					set(t, o.Image, x, y, d.color())
				}
			}
		}
		ground := d.image(t, 30, 30)
		a, b := ground.Clone(), ground.Clone()
		Draw(a, l, list(everywhere()))
		Draw(b, o, list(everywhere()))
		place := Place(l, where)
		same(t, "outside", a, func(x, y int) api.Color {
			m := b
			if inOne(place, x, y) {
				m = a
			}
			c, _ := m.At(x, y)
			return c
		})
	}
}

// R1

// TestLayersThatMayNotBe hands in layers that may not be: they show nothing.
func TestLayersThatMayNotBe(t *testing.T) {
	d := dice(13)
	m := d.image(t, 3, 3)
	m.Set(1, 1, 0xff000000)
	numbers := []int{math.MinInt, math.MinInt + 1, -far - 1, -1, 0, 1, 8, 9, 255, 256, far - 2, far, far + 1, math.MaxInt}
	where := list(everywhere())
	for range 20000 {
		l := Layer{Image: m, At: api.Point{X: numbers[d.roll(14)], Y: numbers[d.roll(14)]}, Scale: numbers[d.roll(14)], Alpha: numbers[d.roll(14)], Clip: everywhere()}
		if d.roll(9) == 0 {
			l.Image = nil
		}
		if May(l) {
			continue
		}
		to := d.image(t, 3, 3)
		was := to.Clone()
		if b := Box(l); b != (api.Rect{}) {
			t.Fatalf("Box(%+v): %v", l, b)
		}
		if c, ok := Color(l, numbers[d.roll(14)], numbers[d.roll(14)]); c != 0 || ok {
			t.Fatalf("Color of %+v: %x", l, c)
		}
		if n := Draw(to, l, where); n != 0 || !to.Same(was) {
			t.Fatalf("Draw(%+v): %d", l, n)
		}
		if len(Place(l, where)) != 0 || len(Solid(l, where)) != 0 {
			t.Fatalf("%+v has a place", l)
		}
	}
}

// R4

// TestListsAreLeftAlone hands in lists with spare room, and writes over what is answered: nothing of what was handed in may change, nor what is answered next.
func TestListsAreLeftAlone(t *testing.T) {
	fresh := func() []api.Rect {
		return list(of(3, 3, 1, 1), of(0, 0, 2, 2), of(-9, 1, 9, 9), of(7, 7, 8, 8), of(9, 9, 10, 10))
	}
	m := made(t, 8, 8)
	m.Fill(m.Box(), 0xff000000)
	l := Layer{Image: m, Scale: 1, Alpha: 255, Clip: everywhere()}
	for i, call := range []func(where []api.Rect) []api.Rect{
		func(where []api.Rect) []api.Rect { Draw(made(t, 5, 5), l, where); return nil },
		func(where []api.Rect) []api.Rect { Clear(made(t, 5, 5), where, 0xff000000); return nil },
		func(where []api.Rect) []api.Rect { return Place(l, where) },
		func(where []api.Rect) []api.Rect { return Place(l, where[1:2]) },
		func(where []api.Rect) []api.Rect { return Solid(l, where) },
		func(where []api.Rect) []api.Rect { return Solid(l, where[1:2]) },
	} {
		where := fresh()
		got := call(where[:4])
		want := slices.Clone(got)
		for j := range got[:cap(got)] {
			got[:cap(got)][j] = of(77, 77, 78, 78)
		}
		if !slices.Equal(where, fresh()) {
			t.Errorf("%d: %v", i, where)
		}
		if again := call(where[:4]); !slices.Equal(again, want) {
			t.Errorf("%d: %v, then %v", i, want, again)
		}
	}
}
