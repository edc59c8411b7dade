package surface

import (
	"iter"
	"math"
	"slices"
	"testing"

	"rondel/api"
	"rondel/image"
	"rondel/paint"
	"rondel/region"
)

const far = 1 << 20

func of(x0, y0, x1, y1 int) api.Rect { return api.Rect{X0: x0, Y0: y0, X1: x1, Y1: y1} }

func list(l ...api.Rect) []api.Rect { return l }

// all has each point of any image.
func all() api.Rect { return of(0, 0, 256, 256) }

// dice is a row of numbers that is the same each time.
type dice uint64

func (d *dice) roll(n int) int {
	*d = *d*6364136223846793005 + 1442695040888963407
	return int(uint64(*d) >> 33 % uint64(n))
}

// color is one that may be; of three one is solid, one is 0 or nearly so.
func (d *dice) color() api.Color {
	a := d.roll(256)
	switch d.roll(3) {
	case 0:
		a = 255
	case 1:
		a = d.roll(2)
	}
	return api.Color(a<<24 | d.roll(a+1)<<16 | d.roll(a+1)<<8 | d.roll(a+1))
}

// rect is any one near 0 that may be: now and then such as has no points.
func (d *dice) rect(n int) api.Rect {
	x, y := d.roll(n)-n/3, d.roll(n)-n/3
	return of(x, y, x+d.roll(n), y+d.roll(n))
}

func made(t *testing.T, w, h int) *image.Image {
	t.Helper()
	m, e := image.New(w, h)
	if e != api.OK {
		t.Fatal(e)
	}
	return m
}

// filled is an image of one color.
func filled(t *testing.T, w, h int, c api.Color) *image.Image {
	t.Helper()
	m := made(t, w, h)
	if n := m.Fill(m.Box(), c); n != w*h {
		t.Fatal(n)
	}
	return m
}

// mixed is an image of any colors.
func (d *dice) mixed(t *testing.T, w, h int) *image.Image {
	t.Helper()
	m := made(t, w, h)
	for y := range h {
		for x := range w {
			set(t, m, x, y, d.color())
		}
	}
	return m
}

func set(t *testing.T, m *image.Image, x, y int, c api.Color) {
	t.Helper()
	if e := m.Set(x, y, c); e != api.OK {
		t.Fatalf("Set(%d, %d, %x): %v", x, y, c, e)
	}
}

// What follows is the words of the chapters, point by point.

func in(r api.Rect, x, y int) bool { return r.X0 <= x && x < r.X1 && r.Y0 <= y && y < r.Y1 }

func inOne(l []api.Rect, x, y int) bool {
	return slices.ContainsFunc(l, func(r api.Rect) bool { return in(r, x, y) })
}

// down is a divided by b, rounded down.
func down(a, b int) int {
	q := a / b
	if q*b > a {
		q--
	}
	return q
}

// look is a state: rows of colors instead of an image (none: no image), and opaque rectangles as they are declared.
type look struct {
	rows         [][]api.Color
	at           api.Point
	scale, alpha int
	clip         api.Rect
	declared     []api.Rect
	title        string
}

// sides are those of its image.
func (l look) sides() (int, int) {
	if l.rows == nil {
		return 0, 0
	}
	return len(l.rows[0]), len(l.rows)
}

// has tells whether its image has a point.
func (l look) has(x, y int) bool {
	w, h := l.sides()
	return in(of(0, 0, w, h), x, y)
}

// point is the one of its image that a point of a canvas shows, and whether it shows one.
func (l look) point(x, y int) (int, int, bool) {
	if l.rows == nil {
		return 0, 0, false
	}
	px, py := down(x-l.at.X, l.scale), down(y-l.at.Y, l.scale)
	return px, py, l.has(px, py) && in(l.clip, px, py)
}

// color is what a point of a canvas shows of it.
func (l look) color(x, y int) (api.Color, bool) {
	px, py, shows := l.point(x, y)
	if !shows {
		return 0, false
	}
	var c api.Color
	for _, part := range []int{24, 16, 8, 0} {
		c |= (l.rows[py][px]>>part&255*api.Color(l.alpha) + 127) / 255 << part
	}
	return c, true
}

// round is all points of a canvas at which its image could be shown, and some round them.
func (l look) round() api.Rect {
	w, h := l.sides()
	return of(l.at.X-2, l.at.Y-2, l.at.X+w*l.scale+2, l.at.Y+h*l.scale+2)
}

// opaque tells whether its opaque region has a point.
func (l look) opaque(x, y int) bool {
	return l.has(x, y) && inOne(l.declared, x, y) && l.rows[y][x]>>24 == 255
}

// fits tells whether its layer may be, of an image of these sides.
func (l look) fits(w, h int) bool {
	return l.scale >= 1 && l.scale <= 8 && l.alpha >= 0 && l.alpha <= 255 &&
		l.at.X >= -far && l.at.X+w*l.scale <= far && l.at.Y >= -far && l.at.Y+h*l.scale <= far
}

// alike tells whether two have images as big, in the same place and way.
func alike(a, b look) bool {
	aw, ah := a.sides()
	bw, bh := b.sides()
	return a.rows != nil && b.rows != nil && aw == bw && ah == bh &&
		a.at == b.at && a.scale == b.scale && a.alpha == b.alpha && a.clip == b.clip
}

// words is what the chapter tells of a surface.
type words struct {
	now, next look
	attached  *image.Image
	damage    []api.Rect
	frames    []int
}

func newWords() *words {
	first := look{scale: 1, alpha: 255, clip: of(-far, -far, far, far)}
	return &words{now: first, next: first}
}

// copied tells whether a point is copied of the attached image.
func (w *words) copied(x, y int) bool { return in(w.attached.Box(), x, y) && inOne(w.damage, x, y) }

// content is the rows of the new image.
func (w *words) content() [][]api.Color {
	b := w.attached.Box()
	nw, nh := w.now.sides()
	var rows [][]api.Color
	for y := range b.Y1 {
		row := make([]api.Color, b.X1)
		for x := range row {
			if w.copied(x, y) {
				row[x], _ = w.attached.At(x, y)
			} else if nw == b.X1 && nh == b.Y1 {
				row[x] = w.now.rows[y][x]
			}
		}
		rows = append(rows, row)
	}
	return rows
}

// outcome is what a commit should tell: whether it is refused, the points that are damaged, the frames, how many points were copied.
type outcome struct {
	refused bool
	damaged func(x, y int) bool
	frames  []int
	copied  int
}

func (w *words) commit() outcome {
	was, now := w.now, w.next
	out := outcome{frames: w.frames}
	copied := func(x, y int) bool { return false }
	now.rows = nil
	if w.attached != nil {
		b := w.attached.Box()
		if !now.fits(b.X1, b.Y1) {
			return outcome{refused: true}
		}
		now.rows = w.content()
		damage := w.damage
		copied = func(x, y int) bool { return now.has(x, y) && inOne(damage, x, y) }
		for y := range b.Y1 {
			for x := range b.X1 {
				if copied(x, y) {
					out.copied++
				}
			}
		}
	}
	out.damaged = func(x, y int) bool {
		px, py, shows := now.point(x, y)
		if alike(was, now) {
			return shows && copied(px, py)
		}
		_, _, did := was.point(x, y)
		return shows || did
	}
	w.now, w.damage, w.frames = now, nil, nil
	return out
}

// both are a surface and the chapter's words of it, which are told the same.
type both struct {
	*Surface
	words *words
}

func newBoth() both { return both{New(), newWords()} }

func (b both) Attach(m *image.Image) {
	b.Surface.Attach(m)
	b.words.attached = m
}

func (b both) Damage(r api.Rect) {
	b.Surface.Damage(r)
	b.words.damage = region.Of(append(slices.Clone(b.words.damage), r)...)
	if l := b.words.damage; len(l) > 64 {
		for _, r := range l {
			l[0] = of(min(l[0].X0, r.X0), min(l[0].Y0, r.Y0), max(l[0].X1, r.X1), max(l[0].Y1, r.Y1))
		}
		b.words.damage = l[:1]
	}
}

func (b both) Move(x, y int) {
	b.Surface.Move(x, y)
	b.words.next.at = api.Point{X: x, Y: y}
}

func (b both) Scale(n int) {
	b.Surface.Scale(n)
	b.words.next.scale = n
}

func (b both) Clip(r api.Rect) {
	b.Surface.Clip(r)
	b.words.next.clip = r
}

func (b both) Opaque(r api.Rect) {
	b.Surface.Opaque(r)
	b.words.next.declared = list(r)
}

func (b both) Fade(n int) {
	b.Surface.Fade(n)
	b.words.next.alpha = n
}

func (b both) Title(s string) {
	b.Surface.Title(s)
	b.words.next.title = s
}

func (b both) Frame(n int) {
	b.Surface.Frame(n)
	b.words.frames = append(b.words.frames, n)
}

// commit commits both, and looks at all that is told: point by point.
func (b both) commit(t *testing.T, where any) (Done, api.Errno) {
	t.Helper()
	was, old := b.Surface.State(), b.words.now
	done, e := b.Surface.Commit()
	want := b.words.commit()
	b.check(t, where)
	if want.refused {
		if e != api.ErrRange || len(done.Damage) > 0 || len(done.Frames) > 0 || done.Copied != 0 {
			t.Fatal(where, "refused:", done, e)
		}
		return done, e
	}
	if e != api.OK || !slices.Equal(done.Frames, want.frames) || done.Copied != want.copied {
		t.Fatal(where, "frames, copied:", done, e, want.frames, want.copied)
	}
	told(t, where, done.Damage, region.Of(old.round(), b.words.now.round()), want.damaged)
	b.undamaged(t, where, done.Damage, was, old)
	return done, e
}

// undamaged is P13.3's: where nothing is damaged, the state shows what it did.
func (b both) undamaged(t *testing.T, where any, damage []api.Rect, was State, old look) {
	t.Helper()
	now := b.Surface.State()
	for x, y := range points(region.Of(old.round(), b.words.now.round())) {
		c, shows := color(now, x, y)
		want, wanted := b.words.now.color(x, y)
		if c != want || shows != wanted {
			t.Fatalf("%v: %d, %d: %x %v, want %x %v", where, x, y, c, shows, want, wanted)
		}
		if inOne(damage, x, y) {
			continue
		}
		if d, did := color(was, x, y); c != d || shows != did {
			t.Fatalf("%v: %d, %d: %x %v, then %x %v", where, x, y, d, did, c, shows)
		}
	}
}

// points is X and Y of each point of a region.
func points(l []api.Rect) iter.Seq2[int, int] {
	return func(yield func(int, int) bool) {
		for _, r := range l {
			for y := r.Y0; y < r.Y1; y++ {
				for x := r.X0; x < r.X1; x++ {
					if !yield(x, y) {
						return
					}
				}
			}
		}
	}
}

// color is what a state shows at a point of a canvas.
func color(s State, x, y int) (api.Color, bool) {
	if s.Content == nil {
		return 0, false
	}
	return paint.Color(Layer(s), x, y)
}

// check looks at the state that is told, and at what is told of it.
func (b both) check(t *testing.T, where any) {
	t.Helper()
	s, w := b.Surface.State(), b.words.now
	if s.At != w.at || s.Scale != w.scale || s.Alpha != w.alpha || s.Clip != w.clip || s.Title != w.title {
		t.Fatal(where, "state:", s, w)
	}
	if (s.Content == nil) != (w.rows == nil) {
		t.Fatal(where, "image:", s.Content == nil, w.rows)
	}
	wide, high := w.sides()
	if s.Content != nil {
		if s.Content.Box() != of(0, 0, wide, high) {
			t.Fatal(where, "sides:", s.Content.Box(), wide, high)
		}
		for y, row := range s.Content.Rows() {
			if !slices.Equal(row, w.rows[y]) {
				t.Fatalf("%v: row %d: %x %x", where, y, row, w.rows[y])
			}
		}
	}
	told(t, where, s.Opaque, list(of(-2, -2, wide+2, high+2)), w.opaque)
	if l := Layer(s); l != (paint.Layer{Image: s.Content, At: w.at, Scale: w.scale, Alpha: w.alpha, Clip: w.clip}) {
		t.Fatal(where, "layer:", l)
	}
	box := region.Of(Box(s))
	told(t, where, box, list(w.round()), func(x, y int) bool {
		_, _, shows := w.point(x, y)
		return shows
	})
	told(t, where, Hides(s), list(w.round()), func(x, y int) bool {
		px, py, shows := w.point(x, y)
		return shows && w.alpha == 255 && w.opaque(px, py)
	})
	if len(box) == 0 && Box(s) != (api.Rect{}) {
		t.Fatal(where, "box:", Box(s))
	}
}

// told looks whether a region is told, of just the points of those round it that want tells, and of no other ones.
func told(t *testing.T, where any, got, round []api.Rect, want func(x, y int) bool) {
	t.Helper()
	if !region.May(got) {
		t.Fatal(where, "no region:", got)
	}
	n := 0
	for x, y := range points(round) {
		if want(x, y) {
			n++
			if !inOne(got, x, y) {
				t.Fatal(where, "it has not", x, y, got)
			}
		}
	}
	if region.Area(got) != n {
		t.Fatal(where, "it has more than", n, got)
	}
}

// P13.1

func TestExample(t *testing.T) {
	b := newBoth()
	b.Attach(filled(t, 2, 2, 0xff000000))
	done, e := b.commit(t, "example")
	if e != api.OK || len(done.Frames) > 0 || done.Copied != 0 {
		t.Error(done, e)
	}
	s := b.State()
	for y := range 2 {
		for x := range 2 {
			if c, is := color(s, x, y); c != 0 || !is {
				t.Errorf("%d, %d: %x %v", x, y, c, is)
			}
		}
	}
	if !slices.Equal(done.Damage, list(of(0, 0, 2, 2))) || Box(s) != of(0, 0, 2, 2) || len(Hides(s)) > 0 {
		t.Error(done, Box(s), Hides(s))
	}
}

func TestWrittenOut(t *testing.T) {
	s := New()
	m := filled(t, 3, 2, 0xffff0000)
	set(t, m, 2, 1, 0x80000080)
	s.Attach(m)
	s.Damage(of(1, 0, 9, 1))
	s.Damage(of(2, 0, 3, 2))
	s.Opaque(of(1, -4, 7, 9))
	s.Move(10, -20)
	s.Scale(2)
	s.Title("a title")
	s.Frame(7)
	s.Frame(5)
	done, e := s.Commit()
	if e != api.OK || !slices.Equal(done.Damage, list(of(10, -20, 16, -16))) || !slices.Equal(done.Frames, []int{7, 5}) || done.Copied != 3 {
		t.Error(done, e)
	}
	got := s.State()
	if got.At != (api.Point{X: 10, Y: -20}) || got.Scale != 2 || got.Alpha != 255 || got.Clip != of(-far, -far, far, far) || got.Title != "a title" {
		t.Error(got)
	}
	if !slices.Equal(got.Opaque, list(of(1, 0, 3, 1))) || !slices.Equal(Hides(got), list(of(12, -20, 16, -18))) {
		t.Error(got.Opaque, Hides(got))
	}
	b, _ := got.Content.Read(of(0, 0, 3, 2))
	if !slices.Equal(b, []byte{0, 0, 0, 0, 255, 255, 0, 0, 255, 255, 0, 0, 0, 0, 0, 0, 0, 0, 0, 0, 128, 0, 0, 128}) {
		t.Error(b)
	}
	s.Clip(of(2, 0, 3, 9))
	done, e = s.Commit()
	if e != api.OK || !slices.Equal(done.Damage, list(of(10, -20, 16, -16))) || len(done.Frames) > 0 || done.Copied != 0 {
		t.Error(done, e)
	}
	s.Damage(of(0, 1, 3, 2))
	done, e = s.Commit()
	if e != api.OK || !slices.Equal(done.Damage, list(of(14, -18, 16, -16))) || done.Copied != 3 {
		t.Error(done, e)
	}
	if got = s.State(); Box(got) != of(14, -20, 16, -16) || !slices.Equal(got.Opaque, list(of(1, 0, 3, 1), of(1, 1, 2, 2))) || !slices.Equal(Hides(got), list(of(14, -20, 16, -18))) {
		t.Error(Box(got), got.Opaque, Hides(got))
	}
}

func TestNew(t *testing.T) {
	b := newBoth()
	b.check(t, "new")
	for i := range 3 {
		if done, e := b.commit(t, i); e != api.OK || len(done.Damage) > 0 || len(done.Frames) > 0 || done.Copied != 0 {
			t.Error(i, done, e)
		}
	}
}

func TestNothingIsShownAheadOfTheCommit(t *testing.T) {
	b := newBoth()
	b.Attach(filled(t, 3, 3, 0xffffffff))
	for i, f := range []func(){
		func() { b.Damage(all()) }, func() { b.Move(3, 4) }, func() { b.Scale(5) }, func() { b.Clip(of(1, 1, 2, 2)) },
		func() { b.Opaque(all()) }, func() { b.Fade(7) }, func() { b.Title("t") }, func() { b.Frame(1) },
	} {
		f()
		b.check(t, i)
	}
	b.commit(t, "first")
	b.Attach(nil)
	b.Move(0, 0)
	b.Scale(1)
	b.Clip(all())
	b.Opaque(of(0, 0, 1, 1))
	b.Fade(8)
	b.Title("")
	b.check(t, "pending")
	b.commit(t, "second")
}

func TestEachIsSetAlone(t *testing.T) {
	sets := []func(b both){
		func(b both) { b.Move(-9, 8) }, func(b both) { b.Scale(3) }, func(b both) { b.Clip(of(1, 0, 2, 9)) },
		func(b both) { b.Opaque(of(0, 0, 1, 3)) }, func(b both) { b.Fade(100) }, func(b both) { b.Title("tea") },
		func(b both) { b.Frame(3) }, func(b both) { b.Damage(of(0, 0, 2, 1)) }, func(b both) { b.Attach(nil) },
	}
	for i, one := range sets {
		for j, next := range sets {
			for _, attached := range []bool{false, true} {
				b := newBoth()
				if attached {
					b.Attach(filled(t, 3, 3, 0xff112233))
					b.Damage(all())
				}
				b.commit(t, []any{i, j, 0})
				one(b)
				b.commit(t, []any{i, j, 1})
				next(b)
				b.commit(t, []any{i, j, 2})
				// What was set stays, until it is set again: nothing is set, and nothing changes.
				if done, _ := b.commit(t, []any{i, j, 3}); len(done.Damage) > 0 {
					t.Error(i, j, done)
				}
			}
		}
	}
}

func TestTheLastOneCounts(t *testing.T) {
	b := newBoth()
	first, last := filled(t, 2, 2, 0xffff0000), filled(t, 3, 1, 0xff00ff00)
	b.Attach(first)
	b.Attach(nil)
	b.Attach(last)
	for i := range 3 {
		b.Move(i, -i)
		b.Scale(8 - i)
		b.Clip(of(-i, 0, 2, 2+i))
		b.Opaque(of(i, 0, 1+i, 1))
		b.Fade(253 + i)
		b.Title([]string{"a", "bb", "ccc"}[i])
	}
	b.Damage(all())
	b.commit(t, "last")
	s := b.State()
	if s.At != (api.Point{X: 2, Y: -2}) || s.Scale != 6 || s.Clip != of(-2, 0, 2, 4) || s.Alpha != 255 || s.Title != "ccc" || !slices.Equal(s.Opaque, list(of(2, 0, 3, 1))) {
		t.Error(s)
	}
}

// Images: none, as big, bigger, smaller, the same one again

func TestCommitWithoutAnImage(t *testing.T) {
	b := newBoth()
	b.Damage(of(0, 0, 2, 2))
	b.Opaque(all())
	b.Move(4, 4)
	if done, e := b.commit(t, "none"); e != api.OK || len(done.Damage) > 0 || done.Copied != 0 {
		t.Error(done, e)
	}
	// The damage of a commit without an image is gone with it.
	b.Attach(filled(t, 2, 2, 0xffffffff))
	if done, _ := b.commit(t, "one"); done.Copied != 0 || !slices.Equal(done.Damage, list(of(4, 4, 6, 6))) {
		t.Error(done)
	}
	b.Damage(all())
	if done, _ := b.commit(t, "written"); done.Copied != 4 || !slices.Equal(done.Damage, list(of(4, 4, 6, 6))) {
		t.Error(done)
	}
	b.Attach(nil)
	b.Damage(of(0, 0, 1, 1))
	if done, e := b.commit(t, "none again"); e != api.OK || done.Copied != 0 || !slices.Equal(done.Damage, list(of(4, 4, 6, 6))) {
		t.Error(done, e)
	}
	if s := b.State(); s.Content != nil || len(s.Opaque) > 0 || Box(s) != (api.Rect{}) || len(Hides(s)) > 0 {
		t.Error(s)
	}
	// What was shown ahead of that is not shown again, though the image is as big.
	b.Attach(filled(t, 2, 2, 0xff0000ff))
	b.Damage(of(1, 1, 2, 2))
	if done, _ := b.commit(t, "again"); done.Copied != 1 || !slices.Equal(done.Damage, list(of(4, 4, 6, 6))) {
		t.Error(done)
	}
}

func TestEachSizeBehindEach(t *testing.T) {
	d := dice(1)
	sides := [][2]int{{0, 0}, {1, 1}, {2, 3}, {3, 2}, {6, 1}, {1, 6}, {3, 3}, {3, 4}, {4, 3}}
	for _, p := range sides {
		for _, q := range sides {
			for _, damage := range []api.Rect{{}, of(1, 0, 2, 3), of(0, 1, 9, 2), all()} {
				b := newBoth()
				for i, side := range [][2]int{p, q, p} {
					if side == [2]int{} {
						b.Attach(nil)
					} else {
						b.Attach(d.mixed(t, side[0], side[1]))
					}
					b.Damage(damage)
					b.commit(t, []any{p, q, damage, i})
					if i == 0 {
						b.Damage(all())
						b.commit(t, []any{p, q, damage, "all"})
					}
				}
			}
		}
	}
}

func TestOneImageStaysAttached(t *testing.T) {
	m := filled(t, 3, 3, 0xff00ff00)
	b := newBoth()
	b.Attach(m)
	b.Damage(of(0, 0, 3, 1))
	b.commit(t, "first")
	b.Damage(of(0, 1, 3, 2))
	if done, _ := b.commit(t, "not attached again"); done.Copied != 3 || !slices.Equal(done.Damage, list(of(0, 1, 3, 2))) {
		t.Error(done)
	}
	m.Fill(all(), 0xff0000ff)
	b.check(t, "written to")
	b.Damage(of(1, 0, 2, 3))
	b.commit(t, "as it is by now")
	b.Attach(m)
	if done, _ := b.commit(t, "the same one again"); done.Copied != 0 || len(done.Damage) > 0 {
		t.Error(done)
	}
	// As big, but another one: what was committed stays, where nothing is damaged.
	b.Attach(filled(t, 3, 3, 0x11000000))
	b.Damage(of(2, 2, 3, 3))
	if done, _ := b.commit(t, "another one"); done.Copied != 1 || !slices.Equal(done.Damage, list(of(2, 2, 3, 3))) {
		t.Error(done)
	}
}

func TestBigImages(t *testing.T) {
	d := dice(2)
	for _, side := range [][2]int{{256, 256}, {256, 1}, {1, 256}, {255, 256}} {
		b := newBoth()
		b.Attach(d.mixed(t, side[0], side[1]))
		b.Opaque(of(-far, -far, far, far))
		b.Damage(of(-far, -far, far, far))
		if done, _ := b.commit(t, side); done.Copied != side[0]*side[1] {
			t.Error(side, done.Copied)
		}
		b.Attach(d.mixed(t, side[0], side[1]))
		b.Damage(of(250, 0, far, far))
		b.Damage(of(0, 250, far, far))
		b.Damage(of(-far, -far, 2, 2))
		b.commit(t, side)
	}
}

// Damage

func TestDamageOfEachRectangle(t *testing.T) {
	d := dice(3)
	old, young := d.mixed(t, 3, 2), d.mixed(t, 3, 2)
	ends := []int{-far, -1, 0, 1, 2, 3, 4, far}
	for _, x0 := range ends {
		for _, x1 := range ends {
			for _, y0 := range ends {
				for _, y1 := range []int{-1, 0, 1, 2, far} {
					b := newBoth()
					b.Attach(old)
					b.Damage(all())
					b.Move(2, -1)
					b.Scale(2)
					b.commit(t, "old")
					b.Attach(young)
					b.Damage(of(x0, y0, x1, y1))
					b.commit(t, of(x0, y0, x1, y1))
				}
			}
		}
	}
}

func TestDamageIsCountedOnce(t *testing.T) {
	b := newBoth()
	b.Attach(filled(t, 5, 5, 0xffffffff))
	b.commit(t, "blank")
	for _, r := range list(of(0, 0, 3, 3), of(1, 1, 4, 4), of(0, 0, 3, 3), of(-7, 4, 1, 9), of(2, 2, 2, 9), of(2, 2, 9, 2)) {
		b.Damage(r)
	}
	done, _ := b.commit(t, "some")
	want := list(of(0, 0, 3, 1), of(0, 1, 4, 3), of(1, 3, 4, 4), of(0, 4, 1, 5))
	if done.Copied != 15 || !slices.Equal(done.Damage, want) {
		t.Error(done)
	}
	if done, _ = b.commit(t, "none is left"); done.Copied != 0 || len(done.Damage) > 0 {
		t.Error(done)
	}
}

func TestDamageAheadOfTheImage(t *testing.T) {
	b := newBoth()
	b.Damage(of(1, 1, 9, 9))
	b.Attach(filled(t, 1, 1, 0xffffffff))
	b.Attach(filled(t, 3, 3, 0xff000000))
	if done, _ := b.commit(t, "ahead"); done.Copied != 4 {
		t.Error(done)
	}
	// The damage is of points, not of the image that was attached then: it goes on in a bigger one.
	b.Attach(filled(t, 2, 2, 0xff0000ff))
	b.Damage(of(1, 1, 9, 9))
	b.Attach(filled(t, 5, 5, 0xffff0000))
	if done, _ := b.commit(t, "bigger"); done.Copied != 16 {
		t.Error(done)
	}
}

// dots is n rectangles of one point each, none of which touches another one.
func dots(n int) []api.Rect {
	var l []api.Rect
	for i := range n {
		x, y := i%10*2, i/10*2
		l = append(l, of(x, y, x+1, y+1))
	}
	return l
}

func TestDamageThatIsKept(t *testing.T) {
	m := filled(t, 20, 20, 0xffffffff)
	for _, x := range []struct{ n, want, back int }{
		{1, 1, 1}, {63, 63, 63}, {64, 64, 64}, {65, 13 * 19, 13 * 19}, {70, 13 * 19, 13 * 19},
		// What comes when all were made one stands apart from that again.
		{71, 13*19 + 1, 15 * 19}, {72, 13*19 + 2, 15 * 19}, {100, 13*19 + 30, 13*19 + 30},
	} {
		b := newBoth()
		b.Attach(m)
		l := dots(x.n)
		for _, want := range []int{x.want, x.back} {
			for _, r := range l {
				b.Damage(r)
			}
			if done, _ := b.commit(t, x.n); done.Copied != want {
				t.Error(x.n, done.Copied, want)
			}
			slices.Reverse(l)
		}
	}
}

func TestDamageBeyondWhatIsKept(t *testing.T) {
	m := filled(t, 20, 20, 0xffffffff)
	full := func() both {
		b := newBoth()
		b.Attach(m)
		for _, r := range dots(64) {
			b.Damage(r)
		}
		return b
	}
	for i, x := range []struct {
		l    []api.Rect
		want int
	}{
		{nil, 64},
		// What makes no rectangle more is no more than can be kept: what is damaged already, has no points, or joins others.
		{dots(64), 64},
		{list(of(3, 3, 3, 9), of(9, 3, 4, 9), api.Rect{}), 64},
		{list(of(1, 0, 2, 1)), 65},
		{list(of(1, 0, 2, 1), of(19, 19, 20, 20)), 66},
		{list(of(0, 0, 20, 20)), 400},
		{list(of(0, 0, 20, 1), of(0, 2, 20, 3), of(19, 19, 20, 20)), 2*20 + 44 + 1},
		// The one round them all is kept then, and what comes behind it is joined to that.
		{list(of(18, 14, 19, 15)), 19 * 15},
		{list(of(19, 19, 20, 20)), 400},
		{list(of(1, 1, 2, 2)), 13 * 19},
		{list(of(1, 1, 2, 2), of(19, 19, 20, 20)), 13*19 + 1},
		{list(of(1, 1, 2, 2), of(19, 0, 20, 13)), 13 * 20},
		// What the image has not is kept, too.
		{list(of(-2, 1, -1, 2)), 13 * 19},
		{list(of(40, 0, 41, 1)), 13 * 20},
		{list(of(-far, -far, 1-far, 1-far), of(far-1, far-1, far, far)), 13*19 + 0},
		{list(of(far-1, far-1, far, far)), 400},
		{list(of(-1, -1, 0, 0), of(0, 19, 1, 20)), 13*19 + 1},
	} {
		b := full()
		for _, r := range x.l {
			b.Damage(r)
		}
		if done, _ := b.commit(t, i); done.Copied != x.want {
			t.Error(i, done.Copied, x.want)
		}
		// Behind it there is room again.
		for _, r := range dots(64) {
			b.Damage(r)
		}
		if done, _ := b.commit(t, i); done.Copied != 64 || len(done.Damage) != 64 {
			t.Error(i, done.Copied)
		}
	}
}

// Commits that are refused

func TestRefused(t *testing.T) {
	for i, x := range []struct{ bad, good func(b both) }{
		{func(b both) { b.Move(far-3, 0) }, func(b both) { b.Move(far-4, 0) }},
		{func(b both) { b.Move(0, far-5) }, func(b both) { b.Move(0, far-6) }},
		{func(b both) { b.Move(far, far) }, func(b both) { b.Move(-far, -far) }},
		{func(b both) { b.Move(far-4, far-6); b.Scale(3) }, func(b both) { b.Scale(2) }},
		{func(b both) { b.Move(far-15, 0); b.Scale(8) }, func(b both) { b.Move(far-16, far-24); b.Clip(of(0, 0, 1, 1)) }},
		// A clip makes no room.
		{func(b both) { b.Move(far-3, 0); b.Clip(of(0, 0, 1, 1)) }, func(b both) { b.Move(9, 9) }},
		{func(b both) { b.Move(far-3, 0); b.Clip(api.Rect{}) }, func(b both) { b.Scale(1) }},
		// A bigger image has none; a smaller one, or none, has.
		{func(b both) { b.Move(far-4, 0); b.Attach(made(t, 3, 1)) }, func(b both) { b.Attach(made(t, 2, 3)) }},
		{func(b both) { b.Move(far-2, 0) }, func(b both) { b.Attach(filled(t, 1, 3, 0xffabcdef)) }},
		{func(b both) { b.Move(far-2, 0) }, func(b both) { b.Attach(nil) }},
	} {
		b := newBoth()
		b.Attach(filled(t, 2, 3, 0xff123456))
		b.Damage(all())
		b.Scale(2)
		b.Opaque(all())
		b.Title("old")
		b.commit(t, i)
		old := b.State()
		b.Attach(filled(t, 2, 3, 0xffffffff))
		b.Damage(of(0, 0, 1, 1))
		b.Frame(4)
		b.Fade(77)
		b.Title("new")
		b.Opaque(of(0, 0, 1, 2))
		x.bad(b)
		for range 3 {
			if done, e := b.commit(t, i); e != api.ErrRange || done.Damage != nil || done.Frames != nil {
				t.Fatal(i, done, e)
			}
			if !sameStates(b.State(), old) {
				t.Fatal(i, b.State(), old)
			}
			b.Frame(6)
			b.Damage(of(1, 2, 9, 9))
		}
		// All that was pending is so still.
		x.good(b)
		done, e := b.commit(t, i)
		if e != api.OK || !slices.Equal(done.Frames, []int{4, 6, 6, 6}) || b.State().Title != "new" {
			t.Fatal(i, done, e, b.State())
		}
		if m := b.State().Content; m != nil && done.Copied != m.Box().X1 {
			t.Fatal(i, done)
		}
	}
}

// sameStates tells whether two show the same, and tell the same.
func sameStates(a, b State) bool {
	if (a.Content == nil) != (b.Content == nil) || a.Content != nil && !a.Content.Same(b.Content) {
		return false
	}
	return a.At == b.At && a.Scale == b.Scale && a.Alpha == b.Alpha && a.Clip == b.Clip && a.Title == b.Title && slices.Equal(a.Opaque, b.Opaque)
}

func TestRefusedAtFirst(t *testing.T) {
	b := newBoth()
	b.Attach(filled(t, 1, 1, 0xffffffff))
	b.Move(far, 0)
	b.Damage(all())
	b.Frame(1)
	b.commit(t, "refused")
	b.Move(0, 0)
	done, e := b.commit(t, "mended")
	if e != api.OK || done.Copied != 1 || !slices.Equal(done.Frames, []int{1}) {
		t.Error(done, e)
	}
}

func TestNothingIsRefusedWithoutAnImage(t *testing.T) {
	s := New()
	s.Move(far, far)
	s.Scale(8)
	s.Frame(2)
	done, e := s.Commit()
	if e != api.OK || len(done.Damage) > 0 || !slices.Equal(done.Frames, []int{2}) {
		t.Error(done, e)
	}
	if got := s.State(); got.At != (api.Point{X: far, Y: far}) || got.Scale != 8 || Box(got) != (api.Rect{}) || len(Hides(got)) > 0 {
		t.Error(got)
	}
	// An image that comes there is refused, and may come elsewhere.
	s.Attach(made(t, 1, 1))
	if _, e = s.Commit(); e != api.ErrRange {
		t.Error(e)
	}
	s.Move(far-8, far-8)
	if done, e = s.Commit(); e != api.OK || !slices.Equal(done.Damage, list(of(far-8, far-8, far, far))) {
		t.Error(done, e)
	}
}

func TestEachPlaceAndScaleAtTheBounds(t *testing.T) {
	for scale := 1; scale <= 8; scale++ {
		for _, side := range []int{1, 2, 255, 256} {
			m := made(t, side, 1)
			for _, x := range []int{-far, 1 - far, 0, far - side*scale - 1, far - side*scale, far - side*scale + 1, far} {
				s := New()
				s.Attach(m)
				s.Scale(scale)
				s.Move(x, -far)
				done, e := s.Commit()
				if x+side*scale > far {
					if e != api.ErrRange || len(done.Damage) > 0 || s.State().Content != nil {
						t.Error(scale, side, x, done, e)
					}
					continue
				}
				want := of(x, -far, x+side*scale, scale-far)
				if e != api.OK || !slices.Equal(done.Damage, list(want)) || Box(s.State()) != want {
					t.Error(scale, side, x, done, e)
				}
			}
		}
	}
}

// Frames

func TestFrames(t *testing.T) {
	b := newBoth()
	rows := [][]int{nil, {1}, {3, 1, 2}, {5, 5, 5}, {0}, nil, {1<<32 - 1, 0, -1, math.MinInt, math.MaxInt}}
	for i, row := range rows {
		for _, n := range row {
			b.Frame(n)
		}
		if done, _ := b.commit(t, i); !slices.Equal(done.Frames, row) {
			t.Error(i, done)
		}
	}
	for n := range 1000 {
		b.Frame(n * n % 77)
	}
	if done, _ := b.commit(t, "many"); len(done.Frames) != 1000 || done.Frames[999] != 999*999%77 {
		t.Error(done)
	}
	if done, _ := b.commit(t, "told"); len(done.Frames) > 0 {
		t.Error(done)
	}
}

func TestFramesAreTheAskers(t *testing.T) {
	s := New()
	var lists [][]int
	for i := range 20 {
		for j := range 5 {
			s.Frame(10*i + j)
		}
		done, _ := s.Commit()
		lists = append(lists, done.Frames)
	}
	for i, l := range lists {
		if !slices.Equal(l, []int{10 * i, 10*i + 1, 10*i + 2, 10*i + 3, 10*i + 4}) {
			t.Error(i, l)
		}
		// Neither has a list spare room that is another one's.
		_ = append(l, -1, -1, -1)
	}
	s.Frame(1)
	done, _ := s.Commit()
	_ = append(done.Frames, 7, 7)
	s.Frame(2)
	s.Frame(3)
	_ = append(done.Frames, 8, 8)
	if again, _ := s.Commit(); !slices.Equal(again.Frames, []int{2, 3}) || !slices.Equal(done.Frames, []int{1}) {
		t.Error(done, again)
	}
}

// Opaque points

func TestOpaque(t *testing.T) {
	m := filled(t, 4, 4, 0xff808080)
	for x := range 4 {
		set(t, m, x, 1, []api.Color{0xff000000, 0xfe000000, 0, 0xffffffff}[x])
	}
	for i, x := range []struct{ declared, want []api.Rect }{
		{nil, nil},
		{list(api.Rect{}), nil},
		{list(of(2, 0, 2, 4)), nil},
		{list(of(0, 0, 4, 4)), list(of(0, 0, 4, 1), of(0, 1, 1, 2), of(3, 1, 4, 2), of(0, 2, 4, 4))},
		{list(of(-far, -far, far, far)), list(of(0, 0, 4, 1), of(0, 1, 1, 2), of(3, 1, 4, 2), of(0, 2, 4, 4))},
		{list(of(0, 0, 2, 1)), list(of(0, 0, 2, 1))},
		{list(of(1, 1, 3, 2)), nil},
		{list(of(3, 1, 9, 9)), list(of(3, 1, 4, 4))},
		{list(of(4, 4, 9, 9)), nil},
		{list(of(-5, -5, 0, 9)), nil},
		{list(of(-5, -5, 1, 1)), list(of(0, 0, 1, 1))},
		// The last one alone is declared.
		{list(of(0, 0, 4, 1), of(0, 2, 4, 3)), list(of(0, 2, 4, 3))},
		{list(of(0, 0, 4, 4), api.Rect{}), nil},
		{list(of(0, 0, 4, 1), of(1, 1, 3, 2), of(0, 0, 1, 4)), list(of(0, 0, 1, 4))},
	} {
		for _, alpha := range []int{255, 254, 0} {
			for _, clip := range list(of(-far, -far, far, far), of(1, 0, 2, 4), api.Rect{}) {
				b := newBoth()
				b.Attach(m)
				b.Damage(all())
				b.Fade(alpha)
				b.Clip(clip)
				for _, r := range x.declared {
					b.Opaque(r)
				}
				b.commit(t, i)
				if s := b.State(); !slices.Equal(s.Opaque, x.want) {
					t.Error(i, alpha, s.Opaque, x.want)
				}
			}
		}
	}
}

func TestOpaqueStaysDeclared(t *testing.T) {
	m := filled(t, 4, 1, 0xff000000)
	b := newBoth()
	b.Opaque(of(1, 0, 9, 9))
	b.commit(t, "no image")
	b.Attach(m)
	b.Damage(of(2, 0, 9, 9))
	b.commit(t, "blank in part")
	if s := b.State(); !slices.Equal(s.Opaque, list(of(2, 0, 4, 1))) {
		t.Error(s.Opaque)
	}
	b.Damage(of(0, 0, 2, 1))
	b.commit(t, "solid behind that")
	if s := b.State(); !slices.Equal(s.Opaque, list(of(1, 0, 4, 1))) {
		t.Error(s.Opaque)
	}
	set(t, m, 2, 0, 0x80000000)
	b.commit(t, "not damaged")
	b.Damage(all())
	b.commit(t, "no more solid")
	if s := b.State(); !slices.Equal(s.Opaque, list(of(1, 0, 2, 1), of(3, 0, 4, 1))) {
		t.Error(s.Opaque)
	}
	b.Attach(filled(t, 9, 2, 0xffffffff))
	b.Damage(all())
	b.commit(t, "a bigger one")
	if s := b.State(); !slices.Equal(s.Opaque, list(of(1, 0, 9, 2))) {
		t.Error(s.Opaque)
	}
	b.Attach(nil)
	b.commit(t, "none")
	b.Attach(m)
	b.Damage(of(3, 0, 4, 1))
	b.commit(t, "one again")
	b.Opaque(of(0, 0, 1, 1))
	b.check(t, "declared, not committed")
	b.Damage(all())
	b.commit(t, "replaced")
	if s := b.State(); !slices.Equal(s.Opaque, list(of(0, 0, 1, 1))) {
		t.Error(s.Opaque)
	}
}

func TestOpaqueOfMuch(t *testing.T) {
	m := filled(t, 256, 256, 0xff000000)
	for y := range 256 {
		for x := range 256 {
			if (x+y)%2 == 0 {
				set(t, m, x, y, 0x7f000000)
			}
		}
	}
	b := newBoth()
	b.Attach(m)
	b.Damage(all())
	b.Opaque(all())
	b.commit(t, "every other one")
	if s := b.State(); len(s.Opaque) != 256*128 || len(Hides(s)) != 256*128 {
		t.Error(len(s.Opaque), len(Hides(s)))
	}
}

// What is damaged of a canvas

// placed is a surface with an image of 3 by 2, shown at 5, -3, three times, half of it, but for a column.
func placed(t *testing.T) both {
	t.Helper()
	b := newBoth()
	d := dice(9)
	b.Attach(d.mixed(t, 3, 2))
	b.Damage(all())
	b.Move(5, -3)
	b.Scale(3)
	b.Fade(128)
	b.Clip(of(1, 0, 3, 2))
	b.Opaque(of(0, 0, 2, 2))
	b.commit(t, "placed")
	return b
}

func TestDamageOfTheCanvas(t *testing.T) {
	d := dice(10)
	other := d.mixed(t, 3, 2)
	was := of(8, -3, 14, 3)
	for i, x := range []struct {
		do   func(b both)
		want []api.Rect
	}{
		{func(b both) {}, nil},
		// Nothing but colors.
		{func(b both) { b.Damage(of(1, 0, 2, 1)) }, list(of(8, -3, 11, 0))},
		{func(b both) { b.Damage(of(0, 0, 1, 2)) }, nil},
		{func(b both) { b.Damage(of(0, 1, 3, 2)) }, list(of(8, 0, 14, 3))},
		{func(b both) { b.Damage(all()) }, list(was)},
		{func(b both) { b.Damage(of(3, 0, 9, 9)) }, nil},
		{func(b both) { b.Attach(other) }, nil},
		{func(b both) { b.Attach(other); b.Damage(of(2, 1, 3, 2)) }, list(of(11, 0, 14, 3))},
		// What is not shown on the canvas.
		{func(b both) { b.Title("t"); b.Opaque(all()); b.Frame(1) }, nil},
		// The same again.
		{func(b both) { b.Move(5, -3); b.Scale(3); b.Fade(128); b.Clip(of(1, 0, 3, 2)) }, nil},
		{func(b both) { b.Move(6, -3); b.Move(5, -3); b.Scale(1); b.Scale(3); b.Damage(of(2, 0, 3, 1)) }, list(of(11, -3, 14, 0))},
		// The place, the scale, the alpha, the clip.
		{func(b both) { b.Move(6, -3) }, list(of(8, -3, 15, 3))},
		{func(b both) { b.Move(5, -4); b.Damage(of(0, 0, 1, 1)) }, list(of(8, -4, 14, 3))},
		{func(b both) { b.Move(30, 30) }, list(was, of(33, 30, 39, 36))},
		{func(b both) { b.Scale(1) }, list(of(6, -3, 14, -1), of(8, -1, 14, 3))},
		{func(b both) { b.Scale(4) }, list(of(8, -3, 17, 3), of(9, 3, 17, 5))},
		{func(b both) { b.Fade(127) }, list(was)},
		{func(b both) { b.Fade(0) }, list(was)},
		{func(b both) { b.Clip(of(0, 0, 2, 2)) }, list(of(5, -3, 14, 3))},
		{func(b both) { b.Clip(api.Rect{}) }, list(was)},
		// The Box is the same, the clip is not: by the words all is damaged.
		{func(b both) { b.Clip(of(1, -1, 3, 2)) }, list(was)},
		{func(b both) { b.Clip(of(1, 0, 4, 2)); b.Damage(of(1, 0, 2, 1)) }, list(was)},
		// The image's size.
		{func(b both) { b.Attach(made(t, 3, 1)) }, list(was)},
		{func(b both) { b.Attach(made(t, 2, 3)) }, list(was)},
		{func(b both) { b.Attach(made(t, 2, 3)); b.Clip(all()) }, list(of(5, -3, 14, 3), of(5, 3, 11, 6))},
		{func(b both) { b.Attach(made(t, 4, 2)) }, list(was)},
		{func(b both) { b.Attach(made(t, 1, 1)) }, list(was)},
		{func(b both) { b.Attach(nil) }, list(was)},
	} {
		b := placed(t)
		x.do(b)
		if done, e := b.commit(t, i); e != api.OK || !slices.Equal(done.Damage, x.want) {
			t.Error(i, done, e, x.want)
		}
	}
}

func TestChangedAndBack(t *testing.T) {
	for i, x := range []struct{ there, back func(b both) }{
		{func(b both) { b.Move(7, 7) }, func(b both) { b.Move(5, -3) }},
		{func(b both) { b.Scale(1) }, func(b both) { b.Scale(3) }},
		{func(b both) { b.Fade(255) }, func(b both) { b.Fade(128) }},
		{func(b both) { b.Clip(all()) }, func(b both) { b.Clip(of(1, 0, 3, 2)) }},
		{func(b both) { b.Attach(nil) }, func(b both) { b.Attach(filled(t, 3, 2, 0xff445566)) }},
		{func(b both) { b.Attach(made(t, 4, 4)) }, func(b both) { b.Attach(filled(t, 3, 2, 0xff445566)) }},
	} {
		b := placed(t)
		x.there(b)
		if done, _ := b.commit(t, i); len(done.Damage) == 0 {
			t.Error(i, "there")
		}
		x.back(b)
		if done, _ := b.commit(t, i); len(done.Damage) == 0 {
			t.Error(i, "back")
		}
		if done, _ := b.commit(t, i); len(done.Damage) > 0 {
			t.Error(i, done)
		}
	}
}

func TestDamageAtEachScaleAlphaAndClip(t *testing.T) {
	d := dice(11)
	for scale := 1; scale <= 8; scale++ {
		for _, alpha := range []int{0, 1, 127, 128, 254, 255} {
			for _, clip := range list(of(-far, -far, far, far), of(0, 0, 1, 1), of(1, 1, 4, 3), of(-3, 2, 2, 9), of(4, 4, 9, 9), api.Rect{}, of(-far, -far, -far, far)) {
				b := newBoth()
				b.Attach(d.mixed(t, 4, 4))
				b.Damage(all())
				b.Opaque(of(0, 1, 3, 9))
				b.Scale(scale)
				b.Fade(alpha)
				b.Clip(clip)
				b.Move(d.roll(20)-10, d.roll(20)-10)
				b.commit(t, []any{scale, alpha, clip})
				b.Attach(d.mixed(t, 4, 4))
				b.Damage(of(1, 1, 3, 2))
				b.Damage(of(2, 2, 9, 9))
				b.commit(t, []any{scale, alpha, clip, "colors"})
			}
		}
	}
}

// P13.2

func TestLayer(t *testing.T) {
	m := made(t, 2, 2)
	s := State{Content: m, At: api.Point{X: 3, Y: -4}, Scale: 5, Alpha: 6, Clip: of(1, 2, 3, 4), Opaque: list(of(0, 0, 1, 1)), Title: "t"}
	if l := Layer(s); l != (paint.Layer{Image: m, At: api.Point{X: 3, Y: -4}, Scale: 5, Alpha: 6, Clip: of(1, 2, 3, 4)}) {
		t.Error(l)
	}
	if l := Layer(State{}); l != (paint.Layer{}) {
		t.Error(l)
	}
	s.Content = nil
	if l := Layer(s); l.Image != nil || l.Scale != 5 {
		t.Error(l)
	}
}

func TestBoxAndHides(t *testing.T) {
	m := filled(t, 3, 3, 0xff000000)
	two := list(of(0, 0, 3, 1), of(1, 1, 2, 3))
	for i, x := range []struct {
		s     State
		box   api.Rect
		hides []api.Rect
	}{
		{State{Content: m, Scale: 1, Alpha: 255, Clip: all(), Opaque: two}, of(0, 0, 3, 3), two},
		{State{Content: m, At: api.Point{X: 4, Y: -5}, Scale: 2, Alpha: 255, Clip: all(), Opaque: two}, of(4, -5, 10, 1), list(of(4, -5, 10, -3), of(6, -3, 8, 1))},
		{State{Content: m, At: api.Point{X: -far, Y: far - 24}, Scale: 8, Alpha: 255, Clip: all(), Opaque: list(of(2, 2, 3, 3))}, of(-far, far-24, 24-far, far), list(of(16-far, far-8, 24-far, far))},
		{State{Content: m, Scale: 1, Alpha: 255, Clip: all()}, of(0, 0, 3, 3), nil},
		// It is asked where its opaque region is shown, not what is solid: of states that are committed that is the same.
		{State{Content: made(t, 3, 3), Scale: 1, Alpha: 255, Clip: all(), Opaque: two}, of(0, 0, 3, 3), two},
		{State{Content: m, Scale: 1, Alpha: 254, Clip: all(), Opaque: two}, of(0, 0, 3, 3), nil},
		{State{Content: m, Scale: 1, Alpha: 0, Clip: all(), Opaque: two}, of(0, 0, 3, 3), nil},
		{State{Content: m, Scale: 3, Alpha: 255, Clip: of(2, 0, 9, 9), Opaque: two}, of(6, 0, 9, 9), list(of(6, 0, 9, 3))},
		{State{Content: m, Scale: 3, Alpha: 255, Clip: of(2, 1, 9, 9), Opaque: two}, of(6, 3, 9, 9), nil},
		{State{Content: m, Scale: 3, Alpha: 255, Clip: api.Rect{}, Opaque: two}, api.Rect{}, nil},
		// Without an image.
		{State{}, api.Rect{}, nil},
		{State{Scale: 1, Alpha: 255, Clip: all(), Opaque: two}, api.Rect{}, nil},
		{State{At: api.Point{X: 7, Y: 7}, Scale: 8, Alpha: 255, Clip: of(0, 0, 3, 3), Opaque: two}, api.Rect{}, nil},
		// Layers that may not be.
		{State{Content: m, Scale: 0, Alpha: 255, Clip: all(), Opaque: two}, api.Rect{}, nil},
		{State{Content: m, Scale: 9, Alpha: 255, Clip: all(), Opaque: two}, api.Rect{}, nil},
		{State{Content: m, Scale: 1, Alpha: 256, Clip: all(), Opaque: two}, api.Rect{}, nil},
		{State{Content: m, At: api.Point{X: far - 2}, Scale: 1, Alpha: 255, Clip: all(), Opaque: two}, api.Rect{}, nil},
	} {
		kept := slices.Clone(x.s.Opaque)
		if got := Box(x.s); got != x.box {
			t.Error(i, got, x.box)
		}
		got := Hides(x.s)
		if !slices.Equal(got, x.hides) {
			t.Error(i, got, x.hides)
		}
		// What is told is new memory.
		clear(got)
		if !slices.Equal(x.s.Opaque, kept) || !slices.Equal(Hides(x.s), x.hides) {
			t.Error(i, "written to")
		}
	}
}

// P13.3

func TestToldStatesStay(t *testing.T) {
	m := filled(t, 3, 3, 0xff00ff00)
	s := New()
	s.Attach(m)
	s.Damage(all())
	s.Opaque(all())
	s.Title("first")
	s.Commit()
	first, kept := s.State(), s.State()
	for i, f := range []func(){
		func() { m.Fill(all(), 0) }, func() { s.Damage(all()) }, func() { s.Move(1, 1) }, func() { s.Scale(2) }, func() { s.Fade(9) },
		func() { s.Clip(api.Rect{}) }, func() { s.Opaque(of(0, 0, 1, 1)) }, func() { s.Title("second") }, func() { s.Frame(1) },
		func() { s.Commit() }, func() { s.Attach(made(t, 2, 2)) }, func() { s.Commit() }, func() { s.Attach(nil) }, func() { s.Commit() },
	} {
		f()
		if !sameStates(first, kept) {
			t.Error(i)
		}
		for y := range 3 {
			for x := range 3 {
				if c, is := first.Content.At(x, y); c != 0xff00ff00 || !is {
					t.Error(i, x, y, c, is)
				}
			}
		}
		if !slices.Equal(first.Opaque, list(of(0, 0, 3, 3))) || first.Title != "first" {
			t.Error(i, first)
		}
	}
}

func TestToldStatesAreTheAskers(t *testing.T) {
	b := newBoth()
	b.Attach(filled(t, 3, 3, 0xff00ff00))
	b.Damage(all())
	b.Opaque(of(1, 0, 3, 3))
	b.commit(t, "first")
	one, other := b.State(), b.State()
	if one.Content == other.Content {
		t.Error("one image")
	}
	spoil := func(s State) {
		s.Content.Fill(all(), 0xffff0000)
		clear(s.Opaque)
		_ = append(s.Opaque, of(1, 1, 1, 1))
	}
	spoil(one)
	b.check(t, "spoilt")
	spoil(other)
	if done, _ := b.commit(t, "spoilt, and committed"); len(done.Damage) > 0 {
		t.Error(done)
	}
	b.Damage(of(0, 0, 1, 1))
	done, _ := b.commit(t, "in part")
	clear(done.Damage)
	b.Damage(of(0, 0, 2, 1))
	done, _ = b.commit(t, "damage spoilt")
	spoil(b.State())
	b.Attach(nil)
	b.commit(t, "none")
}

func TestAttachedImagesAreLeftAlone(t *testing.T) {
	d := dice(12)
	m := d.mixed(t, 4, 4)
	kept := m.Clone()
	b := newBoth()
	b.Attach(m)
	b.Damage(of(1, 1, 3, 3))
	b.Opaque(all())
	b.Fade(77)
	b.commit(t, "one")
	b.Attach(d.mixed(t, 4, 4))
	b.Damage(all())
	b.commit(t, "another one")
	b.State().Content.Fill(all(), 0)
	if !m.Same(kept) {
		t.Error("written to")
	}
}

func TestImagesWrittenToBehind(t *testing.T) {
	m := filled(t, 2, 2, 0xff00ff00)
	b := newBoth()
	b.Attach(m)
	b.Damage(all())
	// It is copied as it is when that is committed, not as it was when it was attached.
	m.Fill(all(), 0xff0000ff)
	b.commit(t, "ahead")
	if c, _ := b.State().Content.At(1, 1); c != 0xff0000ff {
		t.Errorf("%x", c)
	}
	m.Fill(all(), 0xffff0000)
	b.check(t, "behind")
	b.commit(t, "without damage")
	if c, _ := b.State().Content.At(1, 1); c != 0xff0000ff {
		t.Errorf("%x", c)
	}
}

func TestTwoSurfacesWithOneImage(t *testing.T) {
	m := filled(t, 3, 3, 0xff00ff00)
	a, b := newBoth(), newBoth()
	a.Attach(m)
	b.Attach(m)
	a.Damage(of(0, 0, 3, 1))
	b.Damage(of(0, 0, 1, 3))
	b.Move(4, 4)
	b.Frame(9)
	a.commit(t, "a")
	b.check(t, "b ahead")
	m.Fill(all(), 0x80000080)
	a.Damage(of(0, 0, 3, 2))
	a.commit(t, "a again")
	b.commit(t, "b")
	a.check(t, "a behind")
	// Of one's own state, as the other one's image.
	b.Attach(a.State().Content)
	b.Damage(all())
	b.commit(t, "b of a")
	a.Fade(3)
	a.Attach(b.State().Content)
	a.Damage(of(1, 1, 2, 2))
	a.commit(t, "a of b")
	b.check(t, "b at last")
}

func TestItsOwnStateAgain(t *testing.T) {
	b := newBoth()
	d := dice(13)
	b.Attach(d.mixed(t, 3, 3))
	b.Damage(of(0, 0, 2, 3))
	b.commit(t, "first")
	own := b.State().Content
	b.Attach(own)
	b.Damage(all())
	b.commit(t, "its own")
	if !b.State().Content.Same(own) {
		t.Error("not the same")
	}
	own.Fill(all(), 0xffffffff)
	b.check(t, "written to")
}

// All of it

// anything does any one thing to a surface, to one of the images or to what was told.
func (d *dice) anything(t *testing.T, b both, images []*image.Image) {
	t.Helper()
	switch d.roll(16) {
	case 0:
		b.Attach(nil)
	case 1, 2:
		b.Attach(images[d.roll(len(images))])
	case 3, 4:
		b.Damage(d.rect(8))
	case 5:
		b.Move(d.roll(20)-10, d.roll(20)-10)
	case 6:
		b.Scale(1 + d.roll(8))
	case 7:
		b.Clip(d.rect(8))
	case 8:
		b.Clip(of(-far, -far, far, far))
	case 9:
		b.Opaque(d.rect(8))
	case 10:
		b.Fade([]int{0, 255, 255, 128, 254}[d.roll(5)])
	case 11:
		b.Title([]string{"", "a", "日本"}[d.roll(3)])
	case 12:
		b.Frame(d.roll(9))
	case 13:
		images[d.roll(len(images))].Fill(d.rect(6), d.color())
	case 14:
		s := b.State()
		clear(s.Opaque)
		if s.Content != nil {
			s.Content.Fill(all(), d.color())
		}
	case 15:
		// Too far out for each image: it is refused, and what is pending stays.
		old := b.words.next.at
		b.Move(far, d.roll(9))
		b.commit(t, "far out")
		b.Move(old.X, old.Y)
	}
}

func TestRowsOfSteps(t *testing.T) {
	for seed := range 40 {
		d := dice(100 + seed)
		var images []*image.Image
		for _, side := range [][2]int{{1, 1}, {2, 3}, {3, 2}, {3, 3}, {3, 3}, {5, 4}} {
			images = append(images, d.mixed(t, side[0], side[1]))
		}
		surfaces := []both{newBoth(), newBoth()}
		for i := range 250 {
			b := surfaces[d.roll(2)]
			for range d.roll(5) {
				d.anything(t, b, images)
			}
			done, _ := b.commit(t, []any{seed, i})
			clear(done.Damage)
			clear(done.Frames)
			surfaces[d.roll(2)].check(t, []any{seed, i})
		}
	}
}

// R1

// TestWhatMayNotBeHandedIn hands in what chapter 9 allows no request: nothing is promised of it, but it is answered.
func TestWhatMayNotBeHandedIn(t *testing.T) {
	ends := []int{math.MinInt, math.MinInt + 1, -far - 1, -1, 0, 1, 9, 256, far + 1, math.MaxInt - 1, math.MaxInt}
	d := dice(14)
	end := func() int { return ends[d.roll(len(ends))] }
	rect := func() api.Rect { return of(end(), end(), end(), end()) }
	for i := range 3000 {
		s := New()
		for range 3 {
			s.Move(end(), end())
			s.Scale(end())
			s.Clip(rect())
			s.Opaque(rect())
			s.Fade(end())
			s.Damage(rect())
			s.Title("a\nb\xff")
			if d.roll(3) > 0 {
				s.Attach(made(t, 1+d.roll(3), 1+d.roll(3)))
			}
			done, e := s.Commit()
			if e != api.OK && (e != api.ErrRange || len(done.Damage) > 0 || done.Copied != 0) || !region.May(done.Damage) {
				t.Fatal(i, done, e)
			}
			l := Layer(s.State())
			Box(s.State())
			Hides(s.State())
			if e == api.OK && l.Image != nil && !paint.May(l) {
				t.Fatal(i, l)
			}
		}
	}
	for _, n := range ends {
		bad := State{Content: made(t, 2, 2), At: api.Point{X: n, Y: n}, Scale: n, Alpha: 255, Clip: of(n, n, -n, -n), Opaque: list(of(n, n, n+1, n+1), of(0, 0, 2, 2))}
		Box(bad)
		Hides(bad)
	}
}

// TestEachAlphaAndScaleMayBe asks of each number near the bounds whether an image may be committed with it.
func TestEachAlphaAndScaleMayBe(t *testing.T) {
	for n := -300; n <= 600; n++ {
		s := New()
		s.Attach(made(t, 1, 1))
		s.Fade(n)
		want := api.ErrRange
		if n >= 0 && n <= 255 {
			want = api.OK
		}
		if _, e := s.Commit(); e != want {
			t.Error("fade", n, e)
		}
		s = New()
		s.Attach(made(t, 1, 1))
		s.Scale(n)
		want = api.ErrRange
		if n >= 1 && n <= 8 {
			want = api.OK
		}
		if _, e := s.Commit(); e != want {
			t.Error("scale", n, e)
		}
	}
}
