package snap

import (
	"math"
	"slices"
	"testing"

	"rondel/api"
	"rondel/client"
	"rondel/image"
	"rondel/paint"
	"rondel/region"
	"rondel/request"
	"rondel/surface"
)

// Every row of three changes, from several starts, against the chapter's words.
func TestEveryRow(t *testing.T) {
	a, b := filled(t, 2, 1, red), filled(t, 1, 2, half)
	type step struct {
		n int
		f client.Effect
	}
	steps := []step{
		{1, asking(holding(damaging(shown(5, state(a, 0, 0)), of(0, 0, 1, 1)), 1), 1)},
		{1, asking(shown(5, state(b, 1, 0)), 2, 3)},
		{1, shown(5, state(nil, 0, 0))},
		{1, ordered(shown(5, state(a, 0, 1)), 1, 6)},
		{1, damaging(ordered(shown(5, state(a, 0, 0)), 2, 0), of(1, 0, 2, 1))},
		{1, ordered(shown(6, state(b, 1, 1)), 3, 0)},
		{1, asking(ordered(shown(6, state(b, 0, 0)), 1, 5), 4)},
		{1, ordered(shown(6, state(b, 0, 0)), 1, 6)},
		{2, asking(shown(5, state(a, 1, 1)), 5)},
		{2, ordered(shown(5, state(a, 1, 1)), 1, 6)},
		{1, gone(5)}, {1, gone(6)}, {2, gone(5)},
		{1, tipped(5, 0, 0)}, {1, tipped(5, 1, -1)}, {1, tipped(6, 0, 0)}, {2, tipped(5, -1, 0)},
		{2, pointed(2, 1)}, {1, pointed(far, 0)}, {1, pointed(0, 0)},
	}
	starts := [][]step{
		nil,
		{{1, asking(shown(5, state(a, 2, 2)), 9)}, {1, shown(6, state(b, 2, 2))}, {2, shown(5, state(b, 1, 2))}},
		{{1, shown(6, state(b, 2, 2))}, {1, shown(5, state(a, 2, 2))}, {1, tipped(5, 1, 1)}, {1, tipped(6, 0, 1)}, {1, pointed(1, 1)}},
	}
	const long = 3
	rows := 1
	for range long {
		rows *= len(steps)
	}
	for _, start := range starts {
		for row := range rows {
			c := newBoth()
			for _, x := range start {
				c.change(t, x.n, x.f)
			}
			for rest, i := row, 0; i < long; rest, i = rest/len(steps), i+1 {
				x := steps[rest%len(steps)]
				c.change(t, x.n, x.f)
			}
			c.check(t, row)
			if row%3 == 0 {
				c.show(t, row)
			}
		}
	}
}

// state is any one, of images of up to 4 by 3.
func (d *dice) state(images []*image.Image) surface.State {
	s := surface.State{At: at(d.place(), d.place()), Scale: 1 + d.roll(d.of(1, 3, 8)), Alpha: d.of(0, 255, 255, d.roll(256)), Clip: of(-far, -far, far, far)}
	if d.roll(4) > 0 {
		s.Content = images[d.roll(len(images))]
	}
	if d.roll(3) == 0 {
		s.Clip = d.rect(5)
	}
	if d.roll(3) == 0 {
		s.Opaque = region.Of(d.rect(5), d.rect(5))
	}
	if d.roll(5) == 0 {
		s.Title = "tea"
	}
	return s
}

// effect is any one, of ids from 1 to most.
func (d *dice) effect(images []*image.Image, most int) client.Effect {
	id := 1 + d.roll(most)
	switch d.roll(12) {
	case 0:
		return gone(id)
	case 1:
		return tipped(id, d.place(), d.place())
	case 2, 3:
		return pointed(d.place(), d.place())
	}
	f := holding(shown(id, d.state(images)), d.roll(5)-1)
	for range d.roll(3) {
		f.Damage = append(f.Damage, d.rect(9))
	}
	for range d.roll(3) {
		f.Frames = append(f.Frames, d.roll(100))
	}
	if f.Order = d.of(0, 0, d.roll(4)); f.Order == 1 {
		f.Over = 1 + d.roll(most)
	}
	return f
}

// mixed is an image of any colors.
func (d *dice) mixed(t *testing.T, w, h int) *image.Image {
	t.Helper()
	m := filled(t, w, h, 0)
	for y := range h {
		for x := range w {
			m.Set(x, y, d.color())
		}
	}
	return m
}

// Long rows of any changes, against the chapter's words.
func TestSteps(t *testing.T) {
	for start := range 40 {
		d := dice(start)
		images := []*image.Image{d.mixed(t, 1, 1), d.mixed(t, 4, 3), d.mixed(t, 1, 3), d.mixed(t, 4, 1)}
		c := newBoth()
		most := d.of(1, 2, 4, 12)
		for i := range 300 {
			f := d.effect(images, most)
			// A state with a layer that may not be is none that a surface commits.
			if f.Kind == client.Shown && f.State.Content != nil && !may(f.State) {
				f.State.Content = nil
			}
			c.change(t, d.roll(3), f)
			if d.roll(9) == 0 {
				c.take(t, d.roll(c.scene.K()+2))
			}
			if i%4 == 0 {
				c.check(t, i)
			}
		}
		c.show(t, start)
	}
}

// column is the colors that a snapshot shows at a point, from the lowest on.
func column(s Snapshot, x, y int) []api.Color {
	var l []api.Color
	for _, i := range s.Items {
		if c, ok := paint.Color(surface.Layer(i.State), x, y); ok {
			l = append(l, c)
		}
	}
	return l
}

// undamaged looks that what is not damaged shows the same, one over the other: of points near 0, and near each bound. It counts the points that are not damaged, and show anything.
func undamaged(t *testing.T, where any, was, is Snapshot, damage []api.Rect) int {
	t.Helper()
	n := 0
	look := func(x0, y0, side int) {
		for y := y0; y < y0+side; y++ {
			for x := x0; x < x0+side; x++ {
				if region.Has(damage, x, y) {
					continue
				}
				ahead := column(was, x, y)
				if l := column(is, x, y); !slices.Equal(ahead, l) {
					t.Fatalf("%v: at %d, %d: %x, not %x: damaged %v", where, x, y, l, ahead, damage)
				}
				n += min(len(ahead), 1)
			}
		}
	}
	look(-5, -5, 17)
	for _, p := range []api.Point{at(-far, -far), at(-far, far-4), at(far-4, -far), at(far-4, far-4), at(-far, -2), at(-2, far-4)} {
		look(p.X, p.Y, 4)
	}
	return n
}

// request is any one that may change what a client shows: of the buffers 1 and 2, the surfaces 3 to 5.
func (d *dice) request() request.Request {
	id := 3 + d.roll(3)
	r := request.Request{Op: d.of(
		request.Commit, request.Commit, request.Commit, request.Commit, request.Commit, request.Attach, request.Attach, request.Damage, request.Damage,
		request.Move, request.Scale, request.Clip, request.Opaque, request.Fade, request.Raise, request.Lower, request.Frame,
		request.Cursor, request.Point, request.Point, request.Unsurface, request.Surface, request.Surface, request.Write,
	), Id: id}
	switch r.Op {
	case request.Attach:
		r.A = d.of(0, 1, 1, 1, 2, 2, 2)
	case request.Damage, request.Clip, request.Opaque:
		r.R = d.rect(9)
	case request.Move, request.Cursor:
		r.A, r.B = d.place(), d.place()
	case request.Point:
		r.Id, r.A, r.B = 0, d.place(), d.place()
	case request.Scale:
		r.A = 1 + d.roll(3)
	case request.Fade:
		r.A = d.of(0, 128, 255)
	case request.Raise:
		r.A = d.of(0, 3, 4, 5)
	case request.Frame:
		r.A = d.roll(9)
	case request.Write:
		x, y := d.roll(2), d.roll(2)
		c := d.color()
		r.Id, r.R, r.Data = 1+d.roll(2), of(x, y, x+1, y+1), []byte{byte(c >> 24), byte(c >> 16), byte(c >> 8), byte(c)}
	}
	return r
}

// P16.3: what real clients effect, against the chapter's words, and point by point: what is not damaged shows what it showed.
func TestUndamaged(t *testing.T) {
	seen := 0
	for start := range 30 {
		d := dice(1000 + start)
		c := newBoth()
		var clients [3]*client.Client
		for n := range clients {
			clients[n] = client.New()
			for _, r := range []request.Request{
				{Op: request.Buffer, Id: 1, A: 2, B: 3}, {Op: request.Buffer, Id: 2, A: 4 - n, B: 2},
				{Op: request.Surface, Id: 3}, {Op: request.Surface, Id: 4},
			} {
				if told, effects := clients[n].Do(r); len(told) != 0 || len(effects) != 0 {
					t.Fatal(told, effects)
				}
			}
		}
		for i := range 1500 {
			n := d.roll(len(clients))
			r := d.request()
			_, effects := clients[n].Do(r)
			if d.roll(300) == 0 {
				effects = append(effects, clients[n].Close()...)
			}
			for _, f := range effects {
				was := c.scene.Latch()
				damage := c.change(t, n, f)
				seen += undamaged(t, i, was, c.scene.Latch(), damage)
				if d.roll(5) == 0 {
					c.take(t, d.roll(c.scene.K()+2))
				}
			}
			if i%10 == 0 {
				c.check(t, i)
			}
		}
		c.show(t, start)
	}
	if seen < 50000 {
		t.Error(seen)
	}
}

// Orders and ends of entries over one another, point by point; and where one is gone all that it showed is damaged.
func TestUndamagedByOrders(t *testing.T) {
	m := filled(t, 3, 3, half)
	others := []client.Effect{shown(1, state(m, 1, 1)), shown(2, state(m, 0, 2)), shown(3, state(m, 2, 0))}
	for id := 1; id <= 3; id++ {
		for order := range 4 {
			for over := 1; over <= 3; over++ {
				for _, p := range []api.Point{at(0, 0), at(2, 1), at(-4, 5)} {
					for _, cursor := range []bool{false, true} {
						c := newBoth()
						c.run(t, 1, others...)
						if cursor {
							c.run(t, 1, tipped(id, 1, 0), pointed(2, 3))
						}
						was := c.scene.Latch()
						// A surface would tell its Box ahead of it and behind.
						f := ordered(shown(id, state(m, p.X, p.Y)), order, over)
						f.Damage = region.Of(surface.Box(others[id-1].State), surface.Box(f.State))
						undamaged(t, id, was, c.scene.Latch(), c.change(t, 1, f))
						was = c.scene.Latch()
						damage := c.change(t, 1, gone(id))
						undamaged(t, id, was, c.scene.Latch(), damage)
						for y := -5; y < 12; y++ {
							for x := -5; x < 12; x++ {
								if region.Has(damage, x, y) == slices.Equal(column(was, x, y), column(c.scene.Latch(), x, y)) {
									t.Fatal(id, order, over, p, x, y, damage)
								}
							}
						}
					}
				}
			}
		}
	}
}

// R1: what no client effects is answered, too.
func TestOddEffects(t *testing.T) {
	m := filled(t, 2, 2, red)
	ends := []int{math.MinInt, math.MinInt + 1, -far - 1, -1, 0, 1, far + 1, math.MaxInt - 1, math.MaxInt}
	// Kinds that are none: a change, and no more.
	for _, kind := range []int{-1, 4, 5, 256, 1 << 32, 1<<32 + 1, math.MinInt, math.MaxInt} {
		s := New()
		s.Change(1, shown(5, state(m, 3, 3)))
		f := asking(damaging(shown(5, state(m, 4, 4)), of(0, 0, 1, 1)), 1)
		f.Kind = kind
		damages(t, s, 1, f)
		stands(t, s, keys(1, 5), Item{key(1, 5), state(m, 3, 3), -1})
		takes(t, s, 99)
	}
	// States without an image, and with one that may not be shown so.
	for _, is := range []surface.State{
		{}, {Content: m}, {Content: m, Scale: 9, Alpha: 255, Clip: m.Box()}, {Content: m, Scale: -1, Clip: m.Box()}, {Content: m, Scale: math.MaxInt, Clip: m.Box()},
		{Content: m, Scale: 1, Alpha: 256, Clip: m.Box()}, {Content: m, Scale: 1, Alpha: -1, Clip: m.Box()},
		{Content: m, Scale: 1, Alpha: 9, Clip: m.Box(), At: at(far, far)}, {Content: m, Scale: 1, Clip: m.Box(), At: at(math.MinInt, math.MaxInt)},
	} {
		s := New()
		damages(t, s, 1, shown(5, is))
		stands(t, s, keys(1, 5))
		damages(t, s, 1, tipped(5, 0, 0), region.Of(box(atNought(is)))...)
		s.At(0, 0)
		s.Latch()
		damages(t, s, 1, gone(5), region.Of(box(atNought(is)))...)
	}
	// Tips and pointers that are too far out.
	for _, x := range ends {
		for _, y := range ends {
			s := New()
			s.Change(1, shown(5, state(m, 0, 0)))
			s.Change(1, tipped(5, x, y))
			s.Change(1, pointed(y, x))
			if s.Pointer() != at(y, x) {
				t.Error(s.Pointer())
			}
			s.Latch()
			s.At(x, y)
			s.Change(1, damaging(ordered(shown(5, state(m, 0, 0)), x, y), of(x, y, y, x)))
			s.Take(x)
			if s.K() != 4 || len(s.Keys()) != 1 {
				t.Error(s.K(), s.Keys())
			}
		}
	}
}

// atNought is a state as a cursor with the tip 0, 0 shows it, while the pointer is at 0, 0.
func atNought(s surface.State) surface.State {
	s.At = at(0, 0)
	return s
}

// Nothing but what has to be is kept: of keys that are gone, and frames that were taken, there is nothing.
func TestNothingKept(t *testing.T) {
	m := filled(t, 1, 1, red)
	s := New()
	for i := range 20000 {
		s.Change(i%3, asking(shown(i, state(m, 0, 0)), 1, 2))
		s.Change(i%3, tipped(i, 0, 0))
		if i%2 == 0 {
			s.Take(s.K())
		}
		s.Change(i%3, gone(i))
	}
	if len(s.entries) != 0 || len(s.asked) != 0 || cap(s.asked) > 100 {
		t.Error(len(s.entries), len(s.asked), cap(s.asked))
	}
	stands(t, s, nil)
	if s.K() != 60000 {
		t.Error(s.K())
	}
}

// As many entries as all clients may have, with the biggest images.
func TestMany(t *testing.T) {
	big := filled(t, 256, 256, red)
	small := filled(t, 1, 1, blue)
	s := New()
	for n := range api.MaxClients {
		for id := range api.MaxObjects {
			m := small
			if id == 0 {
				m = big
			}
			s.Change(n, shown(id, state(m, id, n)))
			s.Change(n, tipped(id, -id, -n))
		}
	}
	s.Change(0, pointed(1, 1))
	if l := s.Latch(); len(l.Items) != api.MaxClients*api.MaxObjects || !l.Items[32].State.Content.Same(big) || l.Items[32].State.At != at(1, 2) {
		t.Error(len(l.Items))
	}
	shows(t, s, 32, 64, key(63, 31), at(0, 0))
	shows(t, s, 31, 64, key(63, 30), at(0, 0))
	shows(t, s, 33, 64, key(63, 0), at(32, 0))
}

// More rectangles than a surface keeps may be damaged: none is left out, or made greater.
func TestMuchDamage(t *testing.T) {
	m := filled(t, 1, 1, red)
	s := New()
	var l []api.Rect
	for i := range 3 * api.MaxRects {
		s.Change(1, shown(i, state(m, 0, 0)))
		s.Change(1, tipped(i, -2*i, 0))
		l = append(l, of(2*i, 0, 2*i+1, 1))
	}
	damages(t, s, 1, pointed(0, 0), l...)
	s.Change(1, shown(-1, state(m, 0, 0)))
	damages(t, s, 1, damaging(shown(-1, state(m, 0, 0)), l...), l...)
}
