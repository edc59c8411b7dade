package snap

import (
	"math"
	"slices"
	"testing"

	"rondel/api"
	"rondel/client"
	"rondel/region"
	"rondel/stack"
	"rondel/surface"
)

// stands looks at the keys, and at the items.
func stands(t *testing.T, s *Scene, l []stack.Key, items ...Item) {
	t.Helper()
	if got := s.Keys(); !slices.Equal(got, l) {
		t.Error("keys", got, l)
	}
	if got := s.Latch(); got.K != s.K() || !slices.EqualFunc(got.Items, items, sameItem) {
		t.Errorf("%+v, not %d, %+v", got, s.K(), items)
	}
}

// damages does a change, and looks at what is damaged.
func damages(t *testing.T, s *Scene, n int, f client.Effect, l ...api.Rect) {
	t.Helper()
	k := s.K()
	if got := s.Change(n, f); !slices.Equal(got, l) {
		t.Errorf("damaged %v, not %v: %d, %+v", got, l, n, f)
	}
	if s.K() != k+1 {
		t.Error("K", k, s.K())
	}
}

// shows looks at what At tells of a point.
func shows(t *testing.T, s *Scene, x, y int, k stack.Key, p api.Point) {
	t.Helper()
	if gk, gp, ok := s.At(x, y); gk != k || gp != p || !ok {
		t.Error("at", x, y, gk, gp, ok, "not", k, p)
	}
}

// bare looks that nothing is shown at points.
func bare(t *testing.T, s *Scene, l ...api.Point) {
	t.Helper()
	for _, p := range l {
		if k, q, ok := s.At(p.X, p.Y); k != (stack.Key{}) || q != (api.Point{}) || ok {
			t.Error("at", p, k, q, ok)
		}
	}
}

// takes looks at the frames that are told up to a change.
func takes(t *testing.T, s *Scene, k int, l ...Frame) {
	t.Helper()
	if got := s.Take(k); !slices.Equal(got, l) {
		t.Error("take", k, got, l)
	}
}

// The chapter's own example.
func TestExample(t *testing.T) {
	s := New()
	damages(t, s, 1, shown(5, state(nil, 0, 0)))
	if s.K() != 1 {
		t.Error(s.K())
	}
	// It has no item, but its key stands there.
	stands(t, s, keys(1, 5))
}

func TestNew(t *testing.T) {
	s := New()
	if s.K() != 0 || s.Pointer() != at(0, 0) {
		t.Error(s.K(), s.Pointer())
	}
	stands(t, s, nil)
	bare(t, s, at(0, 0), at(-1, 7), at(far, far), at(-beyond, beyond))
	for _, k := range []int{math.MinInt, -1, 0, 1, math.MaxInt} {
		takes(t, s, k)
	}
	if s.K() != 0 {
		t.Error("asking is no change", s.K())
	}
}

// A story of two clients, each damage and each item written out.
func TestWrittenOut(t *testing.T) {
	s := New()
	a, b := filled(t, 2, 2, red), filled(t, 3, 1, half)
	damages(t, s, 1, holding(shown(5, state(a, 3, 3)), 7), of(3, 3, 5, 5))
	damages(t, s, 2, shown(5, state(b, 4, 4)), of(4, 4, 7, 5))
	first, second := Item{key(1, 5), state(a, 3, 3), 7}, Item{key(2, 5), state(b, 4, 4), -1}
	stands(t, s, keys(1, 5, 2, 5), first, second)
	shows(t, s, 4, 4, key(2, 5), at(0, 0))
	shows(t, s, 3, 4, key(1, 5), at(0, 1))
	bare(t, s, at(5, 3), at(7, 4), at(2, 3))
	// The first one goes over all: its Box is damaged, whatever its Damage is.
	over := damaging(ordered(holding(shown(5, state(a, 3, 3)), 8), 2, 0), of(9, 9, 10, 10))
	damages(t, s, 1, over, of(3, 3, 5, 5))
	first.Buffer = 8
	stands(t, s, keys(2, 5, 1, 5), second, first)
	shows(t, s, 4, 4, key(1, 5), at(1, 1))
	// Again: the stack is as it was.
	damages(t, s, 1, over, of(9, 9, 10, 10))
	// The second one becomes a cursor, with the pointer at 0, 0.
	damages(t, s, 2, tipped(5, 1, -2), of(-1, 2, 2, 3), of(4, 4, 7, 5))
	second.State.At = at(-1, 2)
	stands(t, s, keys(2, 5, 1, 5), second, first)
	damages(t, s, 7, pointed(5, 1), of(-1, 2, 2, 3), of(4, 3, 7, 4))
	second.State.At = at(4, 3)
	stands(t, s, keys(2, 5, 1, 5), second, first)
	if s.Pointer() != at(5, 1) {
		t.Error(s.Pointer())
	}
	damages(t, s, 1, gone(5), of(3, 3, 5, 5))
	stands(t, s, keys(2, 5), second)
	damages(t, s, 2, gone(5), of(4, 3, 7, 4))
	stands(t, s, nil)
	if s.K() != 8 {
		t.Error(s.K())
	}
}

// P16.1: what a change does

// Gone, Tipped and Pointed upon a key without an entry: there is none then, nothing is damaged, and nothing of it is kept for an entry that comes.
func TestUponNoEntry(t *testing.T) {
	m := filled(t, 2, 2, red)
	for _, f := range []client.Effect{gone(5), tipped(5, 1, 1), tipped(5, 0, 0), pointed(3, 4)} {
		s := New()
		damages(t, s, 1, f)
		stands(t, s, nil)
		damages(t, s, 1, shown(5, state(m, 7, 8)), of(7, 8, 9, 10))
		damages(t, s, 1, damaging(shown(5, state(m, 7, 8)), of(1, 1, 2, 2)), of(1, 1, 2, 2))
		damages(t, s, 1, pointed(1, 1))
		stands(t, s, keys(1, 5), Item{key(1, 5), state(m, 7, 8), -1})
	}
}

// What comes behind a Gone has nothing of what was there.
func TestGoneAndShownAgain(t *testing.T) {
	s := New()
	m := filled(t, 2, 2, red)
	damages(t, s, 1, shown(6, state(nil, 0, 0)))
	damages(t, s, 1, ordered(shown(5, state(m, 7, 8)), 3, 0), of(7, 8, 9, 10))
	damages(t, s, 1, tipped(5, 1, 1), of(-1, -1, 1, 1), of(7, 8, 9, 10))
	damages(t, s, 1, asking(holding(shown(5, state(m, 7, 8)), 3), 1, 2), of(-1, -1, 1, 1))
	damages(t, s, 1, gone(5), of(-1, -1, 1, 1))
	stands(t, s, keys(1, 6))
	damages(t, s, 1, gone(5))
	damages(t, s, 1, tipped(5, 2, 2))
	damages(t, s, 1, shown(5, state(nil, 0, 0)))
	stands(t, s, keys(1, 6, 1, 5))
	damages(t, s, 1, pointed(9, 9))
	damages(t, s, 1, damaging(shown(5, state(m, 7, 8)), of(0, 0, 1, 1)), of(0, 0, 1, 1))
	stands(t, s, keys(1, 6, 1, 5), Item{key(1, 5), state(m, 7, 8), -1})
	takes(t, s, 99)
}

// The first Shown of a key, and each further one: its state and its buffer are what it told last, with an image or without.
func TestShownAgain(t *testing.T) {
	a, b := filled(t, 2, 2, red), filled(t, 1, 3, blue)
	states := []surface.State{
		state(nil, 0, 0), state(a, 0, 0), state(b, 5, 5), state(a, -3, far-2),
		{Content: b, At: at(1, 1), Scale: 8, Alpha: 7, Clip: of(0, 1, 9, 9), Opaque: list(of(0, 0, 1, 2)), Title: "tea"},
		{Content: nil, At: at(9, 9), Scale: 3, Alpha: 0, Clip: of(4, 4, 4, 4), Title: "日本"},
		{Content: a, At: at(9, 9), Scale: 1, Alpha: 0, Clip: of(4, 4, 4, 4)},
	}
	for i, x := range states {
		for j, y := range states {
			for _, n := range []int{-1, 0, 5} {
				c := newBoth()
				first := c.change(t, 3, holding(damaging(shown(5, x), of(2, 2, 3, 3)), n))
				if want := list(box(x)); box(x) == (api.Rect{}) && len(first) != 0 || box(x) != (api.Rect{}) && !slices.Equal(first, want) {
					t.Error(i, first)
				}
				c.check(t, i)
				second := c.change(t, 3, holding(damaging(shown(5, y), of(2, 2, 3, 3)), n+1))
				if !slices.Equal(second, list(of(2, 2, 3, 3))) {
					t.Error(i, j, second)
				}
				c.check(t, j)
				var items []Item
				if y.Content != nil {
					items = []Item{{key(3, 5), y, n + 1}}
				}
				stands(t, c.scene, keys(3, 5), items...)
			}
		}
	}
}

// Of one id of several clients each has its own entry, and none counts for another one.
func TestSameIds(t *testing.T) {
	m := filled(t, 1, 1, red)
	clients := []int{0, 63, 1, 5}
	place := func(i int) api.Rect { return of(2*i, 0, 2*i+1, 1) }
	for i, n := range clients {
		s := New()
		var row []stack.Key
		var items []Item
		for j, o := range clients {
			damages(t, s, o, holding(shown(5, state(m, 2*j, 0)), j), place(j))
			row = append(row, key(o, 5))
			items = append(items, Item{key(o, 5), state(m, 2*j, 0), j})
		}
		stands(t, s, row, items...)
		// One is shown elsewhere, and is a cursor then.
		damages(t, s, n, holding(shown(5, state(m, 0, 4)), 9))
		items[i].State.At, items[i].Buffer = at(0, 4), 9
		stands(t, s, row, items...)
		damages(t, s, n, tipped(5, -3, -4), of(0, 4, 1, 5), of(3, 4, 4, 5))
		damages(t, s, clients[(i+1)%4], pointed(1, 1), of(3, 4, 4, 5), of(4, 5, 5, 6))
		items[i].State.At = at(4, 5)
		stands(t, s, row, items...)
		// It goes, and the others stay.
		damages(t, s, n, gone(5), of(4, 5, 5, 6))
		stands(t, s, slices.Delete(row, i, i+1), slices.Delete(items, i, i+1)...)
	}
}

// A client's number and an id are not one for the other; of both any numbers may be.
func TestOddKeys(t *testing.T) {
	m := filled(t, 1, 1, red)
	s := New()
	damages(t, s, 5, shown(1, state(m, 0, 0)), of(0, 0, 1, 1))
	damages(t, s, 1, gone(5))
	damages(t, s, 1, tipped(5, 1, 1))
	damages(t, s, 1, shown(5, state(m, 3, 3)), of(3, 3, 4, 4))
	stands(t, s, keys(5, 1, 1, 5), Item{key(5, 1), state(m, 0, 0), -1}, Item{key(1, 5), state(m, 3, 3), -1})
	c := newBoth()
	odd := []int{0, -1, 1, 63, 64, 1<<32 - 1, 1 << 32, 1<<32 + 1, math.MinInt, math.MaxInt}
	for i, n := range odd {
		for j, id := range odd {
			c.change(t, n, shown(id, state(m, i, j)))
		}
	}
	c.check(t, "odd")
	if l := c.scene.Keys(); len(l) != 100 {
		t.Error(len(l))
	}
	for i, n := range odd {
		for j, id := range odd {
			shows(t, c.scene, i, j, key(n, id), at(0, 0))
			c.change(t, n, gone(id))
			bare(t, c.scene, at(i, j))
		}
	}
	stands(t, c.scene, nil)
}

// What orders do to the keys 1 1, 1 2, 1 3, 2 1 and 2 2: whether the Box is damaged, as the stack is another one, or the effect's Damage.
func TestOrders(t *testing.T) {
	m := filled(t, 2, 2, red)
	as := keys(1, 1, 1, 2, 1, 3, 2, 1, 2, 2)
	for i, x := range []struct {
		client, id, order, over int
		want                    []stack.Key
	}{
		// None, and such as are none.
		{1, 2, 0, 0, as},
		{1, 2, 0, 3, as},
		{1, 2, 4, 1, as},
		{1, 2, -1, 1, as},
		// Over another one.
		{1, 1, 1, 2, keys(1, 2, 1, 1, 1, 3, 2, 1, 2, 2)},
		{1, 1, 1, 3, keys(1, 2, 1, 3, 1, 1, 2, 1, 2, 2)},
		{1, 3, 1, 1, keys(1, 1, 1, 3, 1, 2, 2, 1, 2, 2)},
		// Over the one that it stands over.
		{1, 2, 1, 1, as},
		{1, 3, 1, 2, as},
		{2, 2, 1, 1, as},
		// Over itself.
		{1, 1, 1, 1, as},
		{1, 2, 1, 2, as},
		{2, 2, 1, 2, as},
		// Over an id that does not stand there, or is another client's alone.
		{1, 2, 1, 9, as},
		{1, 2, 1, 0, as},
		{1, 2, 1, -1, as},
		{2, 1, 1, 3, as},
		// Over an id that another client has, too: its own counts.
		{2, 1, 1, 2, keys(1, 1, 1, 2, 1, 3, 2, 2, 2, 1)},
		// On top.
		{1, 1, 2, 0, keys(1, 2, 1, 3, 2, 1, 2, 2, 1, 1)},
		{1, 3, 2, 1, keys(1, 1, 1, 2, 2, 1, 2, 2, 1, 3)},
		{2, 2, 2, 0, as},
		// Lowest.
		{1, 3, 3, 0, keys(1, 3, 1, 1, 1, 2, 2, 1, 2, 2)},
		{2, 2, 3, 1, keys(2, 2, 1, 1, 1, 2, 1, 3, 2, 1)},
		{1, 1, 3, 0, as},
	} {
		c := newBoth()
		for j, k := range as {
			c.change(t, k.Client, shown(k.Id, state(m, 3*j, 0)))
		}
		own := slices.Index(as, key(x.client, x.id))
		f := damaging(ordered(shown(x.id, state(m, 3*own, 1)), x.order, x.over), of(7, 7, 8, 8), of(9, 7, 10, 8))
		got := c.change(t, x.client, f)
		want := list(of(3*own, 0, 3*own+2, 3))
		if slices.Equal(x.want, as) {
			want = f.Damage
		}
		if !slices.Equal(got, want) {
			t.Errorf("%d: damaged %v, not %v", i, got, want)
		}
		if l := c.scene.Keys(); !slices.Equal(l, x.want) {
			t.Errorf("%d: %v, not %v", i, l, x.want)
		}
		c.check(t, i)
		// An order is done once: the next Shown without one leaves the stack as it is.
		damages(t, c.scene, x.client, damaging(shown(x.id, state(m, 0, 0)), of(1, 1, 2, 2)), of(1, 1, 2, 2))
		if l := c.scene.Keys(); !slices.Equal(l, x.want) {
			t.Errorf("%d again: %v, not %v", i, l, x.want)
		}
	}
}

// An order that comes with the first Shown of a key is done, too; its Box is damaged.
func TestOrdersOfANewKey(t *testing.T) {
	m := filled(t, 2, 2, red)
	for i, x := range []struct {
		order, over int
		want        []stack.Key
	}{
		{0, 0, keys(1, 1, 1, 2, 2, 1, 1, 5)},
		{1, 1, keys(1, 1, 1, 5, 1, 2, 2, 1)},
		{1, 2, keys(1, 1, 1, 2, 1, 5, 2, 1)},
		{1, 5, keys(1, 1, 1, 2, 2, 1, 1, 5)},
		{1, 9, keys(1, 1, 1, 2, 2, 1, 1, 5)},
		{2, 0, keys(1, 1, 1, 2, 2, 1, 1, 5)},
		{3, 0, keys(1, 5, 1, 1, 1, 2, 2, 1)},
	} {
		c := newBoth()
		c.run(t, 1, shown(1, state(m, 0, 0)), shown(2, state(nil, 0, 0)))
		c.run(t, 2, shown(1, state(m, 2, 2)))
		damages(t, c.scene, 1, damaging(ordered(shown(5, state(m, 5, 5)), x.order, x.over), of(0, 0, 9, 9)), of(5, 5, 7, 7))
		if l := c.scene.Keys(); !slices.Equal(l, x.want) {
			t.Errorf("%d: %v, not %v", i, l, x.want)
		}
	}
	// The first one of all: there is none over which it might stand.
	for order := range 4 {
		s := New()
		damages(t, s, 1, damaging(ordered(shown(5, state(m, 5, 5)), order, 5), of(0, 0, 9, 9)), of(5, 5, 7, 7))
		damages(t, s, 1, damaging(ordered(shown(5, state(m, 5, 5)), order, 5), of(0, 0, 9, 9)), of(0, 0, 9, 9))
	}
}

// An order over a key that is gone by then is none; over one that came again it is one.
func TestOrderOverWhatIsGone(t *testing.T) {
	m := filled(t, 1, 1, red)
	c := newBoth()
	c.run(t, 1, shown(1, state(m, 0, 0)), shown(2, state(m, 0, 0)), shown(3, state(m, 0, 0)))
	c.run(t, 1, gone(2), ordered(shown(1, state(m, 0, 0)), 1, 2))
	stands(t, c.scene, keys(1, 1, 1, 3), Item{key(1, 1), state(m, 0, 0), -1}, Item{key(1, 3), state(m, 0, 0), -1})
	c.run(t, 1, shown(2, state(nil, 0, 0)), ordered(shown(1, state(m, 0, 0)), 1, 2))
	if l := c.scene.Keys(); !slices.Equal(l, keys(1, 3, 1, 2, 1, 1)) {
		t.Error(l)
	}
	c.check(t, "again")
}

// What is damaged is a region, however an effect's Damage is.
func TestDamageIsARegion(t *testing.T) {
	m := filled(t, 2, 2, red)
	for i, x := range []struct{ handed, want []api.Rect }{
		{nil, nil},
		{list(), nil},
		{list(of(1, 1, 1, 5), of(4, 4, 3, 5), api.Rect{}), nil},
		{list(of(0, 0, 2, 2)), list(of(0, 0, 2, 2))},
		{list(of(0, 0, 2, 2), of(2, 0, 4, 2)), list(of(0, 0, 4, 2))},
		{list(of(5, 5, 6, 6), of(0, 0, 1, 1)), list(of(0, 0, 1, 1), of(5, 5, 6, 6))},
		{list(of(0, 0, 4, 4), of(1, 1, 2, 2)), list(of(0, 0, 4, 4))},
		{list(of(-far, -far, far, far)), list(of(-far, -far, far, far))},
	} {
		s := New()
		damages(t, s, 1, damaging(shown(5, state(m, 0, 0)), x.handed...), of(0, 0, 2, 2))
		if got := s.Change(1, damaging(shown(5, state(m, 0, 0)), x.handed...)); !slices.Equal(got, x.want) {
			t.Error(i, got)
		}
	}
	// Two Boxes that meet, that touch, that are one, and of which one has the other one.
	for i, x := range []struct {
		p    api.Point
		want []api.Rect
	}{
		{at(1, 1), list(of(0, 0, 2, 1), of(0, 1, 3, 2), of(1, 2, 3, 3))},
		{at(2, 0), list(of(0, 0, 4, 2))},
		{at(0, -2), list(of(0, -2, 2, 2))},
		{at(0, 0), list(of(0, 0, 2, 2))},
		{at(-3, 0), list(of(-3, 0, -1, 2), of(0, 0, 2, 2))},
	} {
		s := New()
		damages(t, s, 1, shown(5, state(m, 0, 0)), of(0, 0, 2, 2))
		damages(t, s, 1, shown(6, state(nil, 0, 0)))
		damages(t, s, 1, ordered(shown(5, state(m, x.p.X, x.p.Y)), 2, 0), x.want...)
		s.Change(1, shown(5, state(m, 0, 0)))
		if got := s.Change(1, tipped(5, -x.p.X, -x.p.Y)); !slices.Equal(got, x.want) {
			t.Error(i, got, x.want)
		}
	}
}

// What is damaged is of Boxes: clipped and scaled, none without an image, none of a clip that has no point of it; of any alpha.
func TestDamageOfBoxes(t *testing.T) {
	m := filled(t, 4, 3, red)
	for _, x := range []struct {
		set  func(*surface.State)
		want []api.Rect
	}{
		{func(s *surface.State) {}, list(of(5, 6, 9, 9))},
		{func(s *surface.State) { s.Content = nil }, nil},
		{func(s *surface.State) { s.Scale = 8 }, list(of(5, 6, 37, 30))},
		{func(s *surface.State) { s.Clip = of(1, 1, 3, 9) }, list(of(6, 7, 8, 9))},
		{func(s *surface.State) { s.Clip, s.Scale = of(1, 1, 3, 9), 2 }, list(of(7, 8, 11, 12))},
		{func(s *surface.State) { s.Clip = of(4, 0, 9, 9) }, nil},
		{func(s *surface.State) { s.Clip = api.Rect{} }, nil},
		{func(s *surface.State) { s.Alpha = 0 }, list(of(5, 6, 9, 9))},
		{func(s *surface.State) { s.Alpha, s.Opaque = 254, list(of(0, 0, 4, 3)) }, list(of(5, 6, 9, 9))},
	} {
		is := state(m, 5, 6)
		x.set(&is)
		s := New()
		damages(t, s, 1, shown(5, is), x.want...)
		damages(t, s, 1, tipped(5, -5, -6), x.want...)
		damages(t, s, 1, shown(5, is), x.want...)
		damages(t, s, 1, pointed(0, 0), x.want...)
		damages(t, s, 1, gone(5), x.want...)
		// Of an entry that is there, and shows something else then, with another stack.
		s = New()
		damages(t, s, 1, shown(5, is), x.want...)
		damages(t, s, 1, shown(6, state(nil, 0, 0)))
		both := region.Of(append(slices.Clone(x.want), of(90, 6, 94, 9))...)
		damages(t, s, 1, damaging(ordered(shown(5, state(m, 90, 6)), 2, 0), of(0, 0, 99, 99)), both...)
		damages(t, s, 1, damaging(ordered(shown(5, is), 3, 0), of(0, 0, 99, 99)), both...)
	}
}
