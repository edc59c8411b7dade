package snap

import (
	"cmp"
	"math"
	"slices"
	"testing"

	"rondel/api"
	"rondel/client"
	"rondel/image"
	"rondel/region"
	"rondel/stack"
	"rondel/surface"
)

const far = 1 << 20

// beyond is as far out as points are asked of.
const beyond = 1 << 40

const red, green, blue, half = 0xffff0000, 0xff00ff00, 0xff0000ff, 0x80800000

// What follows makes what is handed in, and what is told.

func of(x0, y0, x1, y1 int) api.Rect { return api.Rect{X0: x0, Y0: y0, X1: x1, Y1: y1} }

func list(l ...api.Rect) []api.Rect { return l }

func at(x, y int) api.Point { return api.Point{X: x, Y: y} }

func key(client, id int) stack.Key { return stack.Key{Client: client, Id: id} }

// keys is keys of pairs: a client's number, and an id.
func keys(l ...int) []stack.Key {
	var told []stack.Key
	for i := 0; i < len(l); i += 2 {
		told = append(told, key(l[i], l[i+1]))
	}
	return told
}

// filled is an image of one color.
func filled(t *testing.T, w, h int, c api.Color) *image.Image {
	t.Helper()
	m, e := image.New(w, h)
	if e != api.OK || m.Fill(m.Box(), c) != w*h {
		t.Fatal(w, h, c, e)
	}
	return m
}

// state is one with an image (nil: none) at a place, all else as it is at first.
func state(m *image.Image, x, y int) surface.State {
	return surface.State{Content: m, At: at(x, y), Scale: 1, Alpha: 255, Clip: of(-far, -far, far, far)}
}

// shown is a Shown without damage, frames, a buffer or an order.
func shown(id int, s surface.State) client.Effect {
	return client.Effect{Kind: client.Shown, Id: id, State: s, Buffer: -1}
}

// ordered is a Shown with an order.
func ordered(f client.Effect, order, over int) client.Effect {
	f.Order, f.Over = order, over
	return f
}

// asking is a Shown that asks for frames.
func asking(f client.Effect, l ...int) client.Effect {
	f.Frames = l
	return f
}

// damaging is a Shown with damage.
func damaging(f client.Effect, l ...api.Rect) client.Effect {
	f.Damage = l
	return f
}

// holding is a Shown of a buffer.
func holding(f client.Effect, n int) client.Effect {
	f.Buffer = n
	return f
}

func gone(id int) client.Effect { return client.Effect{Kind: client.Gone, Id: id} }

func tipped(id, x, y int) client.Effect {
	return client.Effect{Kind: client.Tipped, Id: id, X: x, Y: y}
}

func pointed(x, y int) client.Effect { return client.Effect{Kind: client.Pointed, X: x, Y: y} }

// What follows is the words of the chapters.

func in(r api.Rect, x, y int) bool { return r.X0 <= x && x < r.X1 && r.Y0 <= y && y < r.Y1 }

// down is a divided by b, rounded down.
func down(a, b int) int {
	q := a / b
	if q*b > a {
		q--
	}
	return q
}

// bounded tells whether all are from -2^20 to 2^20.
func bounded(l ...int) bool {
	return !slices.ContainsFunc(l, func(n int) bool { return n < -far || n > far })
}

// may tells whether the layer of a state may be.
func may(s surface.State) bool {
	if s.Content == nil || s.Scale < 1 || s.Scale > 8 || s.Alpha < 0 || s.Alpha > 255 || !bounded(s.At.X, s.At.Y) {
		return false
	}
	b := s.Content.Box()
	return bounded(s.At.X+s.Scale*b.X1, s.At.Y+s.Scale*b.Y1)
}

// point is the one of its image that a point of a canvas shows, and whether it shows one, of a state whose layer may be.
func point(s surface.State, x, y int) (api.Point, bool) {
	p := at(down(x-s.At.X, s.Scale), down(y-s.At.Y, s.Scale))
	return p, in(s.Content.Box(), p.X, p.Y) && in(s.Clip, p.X, p.Y)
}

// box is where a state is shown.
func box(s surface.State) api.Rect {
	if !may(s) {
		return api.Rect{}
	}
	m := s.Content.Box()
	x0, y0, x1, y1 := max(s.Clip.X0, 0), max(s.Clip.Y0, 0), min(s.Clip.X1, m.X1), min(s.Clip.Y1, m.Y1)
	if x0 >= x1 || y0 >= y1 {
		return api.Rect{}
	}
	return of(s.At.X+s.Scale*x0, s.At.Y+s.Scale*y0, s.At.X+s.Scale*x1, s.At.Y+s.Scale*y1)
}

// copied is a state of its own.
func copied(s surface.State) surface.State {
	if s.Content != nil {
		s.Content = s.Content.Clone()
	}
	s.Opaque = slices.Clone(s.Opaque)
	return s
}

func sameState(a, b surface.State) bool {
	if (a.Content == nil) != (b.Content == nil) || a.Content != nil && !a.Content.Same(b.Content) {
		return false
	}
	return a.At == b.At && a.Scale == b.Scale && a.Alpha == b.Alpha && a.Clip == b.Clip &&
		slices.Equal(a.Opaque, b.Opaque) && a.Title == b.Title
}

func sameItem(a, b Item) bool {
	return a.Key == b.Key && a.Buffer == b.Buffer && sameState(a.State, b.State)
}

func same(a, b Snapshot) bool { return a.K == b.K && slices.EqualFunc(a.Items, b.Items, sameItem) }

// wish is a frame, and the change that asked for it.
type wish struct{ change, n int }

// look is an entry; of one that is no cursor there is no tip.
type look struct {
	state  surface.State
	buffer int
	wishes []wish
	tip    *api.Point
}

// words is what the chapter tells of a scene.
type words struct {
	looks   map[stack.Key]*look
	row     []stack.Key // from the lowest on
	pointer api.Point
	k       int
}

// shows is what a key's entry shows (the zero one, if there is none).
func (w *words) shows(k stack.Key) surface.State {
	l := w.looks[k]
	if l == nil {
		return surface.State{}
	}
	s := l.state
	if l.tip != nil {
		s.At = at(w.pointer.X-l.tip.X, w.pointer.Y-l.tip.Y)
	}
	if !may(s) {
		s.Content = nil
	}
	return s
}

// put lets a key, that stands there, stand just behind so many of the others.
func (w *words) put(k stack.Key, place int) {
	others := w.others(k)
	w.row = slices.Concat(others[:place], []stack.Key{k}, others[place:])
}

// others is all keys but that one.
func (w *words) others(k stack.Key) []stack.Key {
	return slices.DeleteFunc(slices.Clone(w.row), func(o stack.Key) bool { return o == k })
}

// change does one: what is damaged, as any rectangles.
func (w *words) change(n int, f client.Effect) []api.Rect {
	w.k++
	k := key(n, f.Id)
	switch f.Kind {
	case 0:
		return w.show(k, f)
	case 1:
		was := w.shows(k)
		delete(w.looks, k)
		w.row = w.others(k)
		return list(box(was))
	case 2:
		was := w.shows(k)
		if l := w.looks[k]; l != nil {
			l.tip = &api.Point{X: f.X, Y: f.Y}
		}
		return list(box(was), box(w.shows(k)))
	case 3:
		damage := w.cursors()
		w.pointer = at(f.X, f.Y)
		return append(damage, w.cursors()...)
	}
	return nil
}

// cursors is the Boxes of all cursors.
func (w *words) cursors() []api.Rect {
	var l []api.Rect
	for _, k := range w.row {
		if w.looks[k].tip != nil {
			l = append(l, box(w.shows(k)))
		}
	}
	return l
}

func (w *words) show(k stack.Key, f client.Effect) []api.Rect {
	was, row := w.shows(k), w.row
	l := w.looks[k]
	there := l != nil
	if !there {
		l = &look{}
		w.looks[k] = l
		w.row = append(slices.Clone(w.row), k)
	}
	l.state, l.buffer = copied(f.State), f.Buffer
	for _, n := range f.Frames {
		l.wishes = append(l.wishes, wish{w.k, n})
	}
	switch over := slices.Index(w.others(k), key(k.Client, f.Over)); {
	case f.Order == 1 && over >= 0:
		w.put(k, over+1)
	case f.Order == 2:
		w.put(k, len(w.row)-1)
	case f.Order == 3:
		w.put(k, 0)
	}
	if there && l.tip == nil && slices.Equal(row, w.row) {
		return f.Damage
	}
	return list(box(was), box(w.shows(k)))
}

func (w *words) latch() Snapshot {
	s := Snapshot{K: w.k}
	for _, k := range w.row {
		if is := w.shows(k); is.Content != nil {
			s.Items = append(s.Items, Item{Key: k, State: is, Buffer: w.looks[k].buffer})
		}
	}
	return s
}

// take gathers from each entry, and lets the row be that of the changes.
func (w *words) take(k int) []Frame {
	type one struct {
		change int
		frame  Frame
	}
	var all []one
	for _, is := range w.row {
		l := w.looks[is]
		var left []wish
		for _, x := range l.wishes {
			if x.change <= k {
				all = append(all, one{x.change, Frame{Key: is, N: x.n}})
			} else {
				left = append(left, x)
			}
		}
		l.wishes = left
	}
	// A change asks for frames of one key alone.
	slices.SortStableFunc(all, func(a, b one) int { return cmp.Compare(a.change, b.change) })
	var told []Frame
	for _, x := range all {
		told = append(told, x.frame)
	}
	return told
}

func (w *words) at(x, y int) (stack.Key, api.Point, bool) {
	for i := len(w.row) - 1; i >= 0; i-- {
		s := w.shows(w.row[i])
		if s.Content == nil {
			continue
		}
		if p, ok := point(s, x, y); ok {
			return w.row[i], p, true
		}
	}
	return stack.Key{}, api.Point{}, false
}

// What follows is a scene and the chapter's words of it, which are asked the same.
type both struct {
	scene *Scene
	words *words
}

func newBoth() both { return both{New(), &words{looks: map[stack.Key]*look{}}} }

// change changes both: what is damaged.
func (b both) change(t *testing.T, n int, f client.Effect) []api.Rect {
	t.Helper()
	want := region.Of(b.words.change(n, f)...)
	got := b.scene.Change(n, f)
	if !region.May(got) || !slices.Equal(got, want) {
		t.Fatalf("damaged %v, not %v: %d, %+v", got, want, n, f)
	}
	if b.scene.K() != b.words.k || b.scene.Pointer() != b.words.pointer {
		t.Fatal(b.scene.K(), b.words.k, b.scene.Pointer(), b.words.pointer)
	}
	return got
}

// run changes both by effects of one client.
func (b both) run(t *testing.T, n int, l ...client.Effect) {
	t.Helper()
	for _, f := range l {
		b.change(t, n, f)
	}
}

// take asks both.
func (b both) take(t *testing.T, k int) []Frame {
	t.Helper()
	want := b.words.take(k)
	got := b.scene.Take(k)
	if !slices.Equal(got, want) {
		t.Fatal("take", k, got, want)
	}
	return got
}

// at asks both of a point.
func (b both) at(t *testing.T, where any, x, y int) {
	t.Helper()
	k, p, ok := b.scene.At(x, y)
	if wk, wp, wok := b.words.at(x, y); k != wk || p != wp || ok != wok {
		t.Fatal(where, "at", x, y, k, p, ok, wk, wp, wok)
	}
}

// check asks all there is to ask without doing anything.
func (b both) check(t *testing.T, where any) {
	t.Helper()
	if l := b.scene.Keys(); !slices.Equal(l, b.words.row) {
		t.Fatal(where, "keys", l, b.words.row)
	}
	if s, want := b.scene.Latch(), b.words.latch(); !same(s, want) {
		t.Fatalf("%v: %+v, not %+v", where, s, want)
	}
	for _, k := range b.words.row {
		r := box(b.words.shows(k))
		for _, x := range []int{r.X0 - 1, r.X0, r.X1 - 1, r.X1} {
			for _, y := range []int{r.Y0 - 1, r.Y0, r.Y1 - 1, r.Y1} {
				b.at(t, where, x, y)
			}
		}
	}
	for _, n := range []int{-beyond, -far - 1, -far, -1, 0, far - 1, far, beyond} {
		b.at(t, where, n, 0)
		b.at(t, where, 0, n)
		b.at(t, where, n, n)
	}
}

// show lets out what nothing else tells: frames that are asked for still.
func (b both) show(t *testing.T, where any) {
	t.Helper()
	b.check(t, where)
	for k := -1; k <= b.words.k+1; k++ {
		b.take(t, k)
	}
	b.take(t, math.MaxInt)
	b.check(t, where)
}

// dice is a row of numbers that is the same each time.
type dice uint64

func (d *dice) roll(n int) int {
	*d = *d*6364136223846793005 + 1442695040888963407
	return int(uint64(*d) >> 33 % uint64(n))
}

func (d *dice) of(l ...int) int { return l[d.roll(len(l))] }

// color is one that may be; of three one is solid, one is 0 or nearly so.
func (d *dice) color() api.Color {
	a := d.roll(256)
	switch d.roll(3) {
	case 0:
		a = 255
	case 1:
		a = d.roll(2)
	}
	return api.Color(a<<24 | d.roll(a+1)<<16 | d.roll(a+1)<<8 | d.roll(a+1))
}

// rect is any one near 0 that may be: now and then such as has no points.
func (d *dice) rect(n int) api.Rect {
	x, y := d.roll(n)-n/3, d.roll(n)-n/3
	return of(x, y, x+d.roll(n), y+d.roll(n))
}

// place is a coordinate: near 0, and now and then near a bound.
func (d *dice) place() int {
	if d.roll(12) == 0 {
		return d.of(-far, -far+1, far-d.roll(5), far)
	}
	return d.roll(9) - 4
}
