package snap

import (
	"math"
	"slices"
	"testing"

	"rondel/api"
	"rondel/client"
	"rondel/image"
	"rondel/stack"
	"rondel/surface"
)

// P16.2: Take

func one(id, n int) Frame { return Frame{Key: key(1, id), N: n} }

// The frames of a key: of changes up to the number, once.
func TestTake(t *testing.T) {
	start := func() *Scene {
		s := New()
		s.Change(1, asking(shown(5, state(nil, 0, 0)), 7, 7, 0)) // 1
		s.Change(1, pointed(0, 0))                               // 2
		s.Change(1, asking(shown(5, state(nil, 0, 0)), 1<<32-1)) // 3
		s.Change(1, shown(5, state(nil, 0, 0)))                  // 4
		s.Change(1, asking(shown(5, state(nil, 0, 0)), 2, 1))    // 5
		return s
	}
	all := []Frame{one(5, 7), one(5, 7), one(5, 0), one(5, 1<<32-1), one(5, 2), one(5, 1)}
	for _, x := range []struct{ k, n int }{
		{math.MinInt, 0}, {-1, 0}, {0, 0}, {1, 3}, {2, 3}, {3, 4}, {4, 4}, {5, 6}, {6, 6}, {1 << 32, 6}, {math.MaxInt, 6},
	} {
		s := start()
		takes(t, s, x.k, all[:x.n]...)
		takes(t, s, x.k)
		if s.K() != 5 {
			t.Error(s.K())
		}
		takes(t, s, math.MaxInt, all[x.n:]...)
		takes(t, s, math.MaxInt)
	}
	// One behind the other.
	s := start()
	for k, l := range [][]Frame{0: nil, 1: all[:3], 2: nil, 3: all[3:4], 4: nil, 5: all[4:], 6: nil} {
		takes(t, s, k, l...)
	}
	// Those that are asked for then count by their own change.
	s.Change(1, asking(shown(5, state(nil, 0, 0)), 9))
	takes(t, s, 5)
	takes(t, s, 6, one(5, 9))
}

// Of several keys the frames stand in the row of the changes, not of the stack, the clients or the ids.
func TestTakeOfSeveral(t *testing.T) {
	s := New()
	s.Change(2, asking(shown(5, state(nil, 0, 0)), 1))
	s.Change(1, asking(shown(9, state(nil, 0, 0)), 2, 1))
	s.Change(1, asking(shown(3, state(nil, 0, 0)), 3))
	s.Change(2, asking(ordered(shown(5, state(nil, 0, 0)), 2, 0), 4))
	s.Change(1, asking(ordered(shown(9, state(nil, 0, 0)), 3, 0), 5))
	s.Change(2, asking(ordered(shown(5, state(nil, 0, 0)), 3, 0), 0, 6))
	stands(t, s, keys(2, 5, 1, 9, 1, 3))
	all := []Frame{
		{key(2, 5), 1}, {key(1, 9), 2}, {key(1, 9), 1}, {key(1, 3), 3}, {key(2, 5), 4}, {key(1, 9), 5}, {key(2, 5), 0}, {key(2, 5), 6},
	}
	takes(t, s, 2, all[:3]...)
	takes(t, s, 4, all[3:5]...)
	takes(t, s, 6, all[5:]...)
	takes(t, s, 6)
}

// What a key asked for that is gone is not told, though it came again; what others asked for is.
func TestTakeOfGone(t *testing.T) {
	s := New()
	s.Change(1, asking(shown(5, state(nil, 0, 0)), 1)) // 1
	s.Change(2, asking(shown(5, state(nil, 0, 0)), 2)) // 2
	s.Change(1, asking(shown(6, state(nil, 0, 0)), 3)) // 3
	s.Change(1, asking(shown(5, state(nil, 0, 0)), 4)) // 4
	s.Change(1, gone(5))                               // 5
	s.Change(1, gone(7))                               // 6
	takes(t, s, 1)
	s.Change(1, asking(shown(5, state(nil, 0, 0)), 5)) // 7
	takes(t, s, 6, Frame{key(2, 5), 2}, one(6, 3))
	takes(t, s, 6)
	takes(t, s, 7, one(5, 5))
	// Of one that is gone ahead of what asked later nothing is left, either.
	s.Change(2, asking(shown(5, state(nil, 0, 0)), 6)) // 8
	s.Change(2, gone(5))
	takes(t, s, math.MaxInt)
}

// Frames are asked for whatever the entry shows, and by cursors, too.
func TestTakeOfAnyEntry(t *testing.T) {
	m := filled(t, 1, 1, red)
	s := New()
	s.Change(1, asking(shown(5, state(m, 0, 0)), 1))
	s.Change(1, tipped(5, far, far))
	s.Change(1, pointed(-far, -far))
	s.Change(1, asking(shown(5, state(m, 0, 0)), 2))
	s.Change(1, asking(shown(5, state(nil, 0, 0)), 3))
	stands(t, s, keys(1, 5))
	takes(t, s, 3, one(5, 1))
	takes(t, s, 5, one(5, 2), one(5, 3))
}

// What is taken changes nothing else, and what is asked of a scene takes nothing.
func TestAskingChangesNothing(t *testing.T) {
	m := filled(t, 2, 2, red)
	s := New()
	s.Change(1, asking(holding(shown(5, state(m, 3, 3)), 4), 1, 2))
	was := s.Latch()
	s.At(3, 3)
	s.Keys()
	s.K()
	s.Pointer()
	takes(t, s, 1, one(5, 1), one(5, 2))
	if !same(s.Latch(), was) || s.K() != 1 {
		t.Error(s.Latch(), was)
	}
}

// P16.2: At

// Of several entries that show a color there the topmost counts, whatever the color is.
func TestAt(t *testing.T) {
	s := New()
	for i, c := range []api.Color{red, half, 0, green} {
		s.Change(1, shown(i, state(filled(t, 2, 2, c), i, i)))
	}
	shows(t, s, 0, 0, key(1, 0), at(0, 0))
	shows(t, s, 1, 1, key(1, 1), at(0, 0))
	shows(t, s, 2, 2, key(1, 2), at(0, 0))
	shows(t, s, 3, 3, key(1, 3), at(0, 0))
	shows(t, s, 2, 3, key(1, 2), at(0, 1))
	shows(t, s, 0, 1, key(1, 0), at(0, 1))
	shows(t, s, 4, 4, key(1, 3), at(1, 1))
	bare(t, s, at(2, 0), at(0, 2), at(5, 4), at(-1, 0), at(0, -1))
	// One that is faded to nothing shows a color still, one without an image none.
	faded := state(filled(t, 9, 9, red), 0, 0)
	faded.Alpha = 0
	s.Change(2, shown(9, faded))
	s.Change(2, shown(8, state(nil, 0, 0)))
	shows(t, s, 1, 1, key(2, 9), at(1, 1))
	shows(t, s, 8, 8, key(2, 9), at(8, 8))
	// Down there the others are still.
	s.Change(2, ordered(shown(9, faded), 3, 0))
	shows(t, s, 1, 1, key(1, 1), at(0, 0))
	shows(t, s, 2, 0, key(2, 9), at(2, 0))
}

// Where the topmost one is clipped, the one under it shows.
func TestAtOfClipped(t *testing.T) {
	s := New()
	s.Change(1, shown(1, state(filled(t, 4, 4, red), 0, 0)))
	top := state(filled(t, 4, 4, green), 0, 0)
	top.Clip = of(1, 2, 99, 3)
	s.Change(1, shown(2, top))
	for y := range 4 {
		for x := range 4 {
			k := key(1, 1)
			if x >= 1 && y == 2 {
				k = key(1, 2)
			}
			shows(t, s, x, y, k, at(x, y))
		}
	}
	top.Clip = of(4, 0, 9, 9)
	s.Change(1, shown(2, top))
	shows(t, s, 2, 2, key(1, 1), at(2, 2))
}

// Of each scale, and each place, below 0 and above: the point of the image is rounded down.
func TestAtOfScaled(t *testing.T) {
	m := filled(t, 3, 2, red)
	for scale := 1; scale <= 8; scale++ {
		for _, p := range []api.Point{at(0, 0), at(5, 1), at(-7, -9), at(-1, 3), at(-far, far-16), at(far-24, -far)} {
			is := state(m, p.X, p.Y)
			is.Scale = scale
			s := New()
			s.Change(1, shown(5, is))
			for y := -1; y <= 2*scale; y++ {
				for x := -1; x <= 3*scale; x++ {
					if x < 0 || y < 0 || x == 3*scale || y == 2*scale {
						bare(t, s, at(p.X+x, p.Y+y))
					} else {
						shows(t, s, p.X+x, p.Y+y, key(1, 5), at(x/scale, y/scale))
					}
				}
			}
		}
	}
}

// Points beyond all, up to where they may be asked of.
func TestAtFarOut(t *testing.T) {
	m := filled(t, 256, 256, red)
	is := state(m, -far, -far)
	is.Scale = 8
	s := New()
	s.Change(1, shown(5, is))
	s.Change(1, shown(6, state(m, far-256, far-256)))
	shows(t, s, -far, -far, key(1, 5), at(0, 0))
	shows(t, s, -far+2047, -far+2047, key(1, 5), at(255, 255))
	shows(t, s, far-256, far-256, key(1, 6), at(0, 0))
	shows(t, s, far-1, far-1, key(1, 6), at(255, 255))
	bare(t, s, at(far, far-1), at(far-1, far), at(-far-1, -far), at(-far, -far-1), at(-far+2048, -far), at(far-257, far-1), at(0, 0))
	ends := []int{-beyond, -beyond + 1, -1 << 32, -1<<32 - far, 1 << 32, 1<<32 - far, 1<<32 + far - 1, beyond - 1, beyond, -far, far - 1}
	for _, x := range ends {
		for _, y := range ends {
			if x < -far || x >= far || y < -far || y >= far {
				bare(t, s, at(x, y))
			}
		}
	}
}

// P16.1: Latch, Keys

// Only what has an image is an item, from the lowest on, with its key, its buffer, and all of its state.
func TestLatch(t *testing.T) {
	s := New()
	if l := s.Latch(); l.K != 0 || len(l.Items) != 0 {
		t.Error(l)
	}
	a := surface.State{
		Content: filled(t, 3, 2, half), At: at(-5, 6), Scale: 3, Alpha: 77, Clip: of(1, 0, 2, 9),
		Opaque: list(of(0, 0, 1, 2), of(2, 0, 3, 2)), Title: "日本 tea",
	}
	b := state(filled(t, 1, 1, 0), 0, 0)
	b.Alpha = 0
	s.Change(4, holding(shown(5, a), 3))
	s.Change(4, holding(shown(6, state(nil, 1, 1)), 4))
	s.Change(0, holding(shown(5, b), 0))
	s.Change(0, shown(6, state(nil, 2, 2)))
	stands(t, s, keys(4, 5, 4, 6, 0, 5, 0, 6), Item{key(4, 5), a, 3}, Item{key(0, 5), b, 0})
	s.Change(4, holding(ordered(shown(6, a), 3, 0), -1))
	s.Change(0, ordered(shown(5, state(nil, 3, 3)), 2, 0))
	stands(t, s, keys(4, 6, 4, 5, 0, 6, 0, 5), Item{key(4, 6), a, -1}, Item{key(4, 5), a, 3})
	if l := s.Latch(); l.K != 6 {
		t.Error(l.K)
	}
	// Two of one scene are the same, and share nothing.
	x, y := s.Latch(), s.Latch()
	if !same(x, y) || x.Items[0].State.Content == y.Items[0].State.Content {
		t.Error(x, y)
	}
}

// busy is a scene with what can be written to: 1 5 with an image and lists, 2 6, and the cursor 2 7.
func busy(t *testing.T) both {
	t.Helper()
	c := newBoth()
	is := state(filled(t, 2, 3, red), 3, 4)
	is.Opaque, is.Title = list(of(0, 0, 1, 1), of(1, 2, 2, 3)), "tea"
	c.run(t, 1, asking(holding(shown(5, is), 3), 1, 2))
	is.At = at(5, 5)
	c.run(t, 2, asking(holding(shown(6, is), 4), 3), shown(7, is), tipped(7, 1, 1), pointed(2, 2))
	return c
}

// kept is a snapshot's own copy, at every depth.
func kept(s Snapshot) Snapshot {
	s.Items = slices.Clone(s.Items)
	for i := range s.Items {
		s.Items[i].State = copied(s.Items[i].State)
	}
	return s
}

// spoil lets all of a list, and its spare room, be x.
func spoil[T any](l []T, x T) {
	l = l[:cap(l)]
	for i := range l {
		l[i] = x
	}
}

// spoilState writes to all of a state that can be written to.
func spoilState(s surface.State) {
	if s.Content != nil {
		s.Content.Fill(s.Content.Box(), 0x11111111)
	}
	spoil(s.Opaque, of(77, 77, 78, 78))
}

// P16.3: a snapshot stays as it was, whatever is done to the scene.
func TestSnapshotStays(t *testing.T) {
	m := filled(t, 2, 3, blue)
	for i, f := range []client.Effect{
		shown(5, state(m, 9, 9)), shown(5, state(nil, 9, 9)), damaging(shown(5, state(m, 3, 4)), of(3, 4, 5, 7)), ordered(shown(5, state(m, 3, 4)), 2, 0),
		ordered(shown(6, state(m, 3, 4)), 3, 0), shown(8, state(m, 3, 4)),
		gone(5), gone(6), gone(7), tipped(5, 4, 4), tipped(7, 9, 9), pointed(far, far), pointed(0, 0),
	} {
		c := busy(t)
		s := c.scene.Latch()
		was := kept(s)
		for _, n := range []int{1, 2} {
			c.change(t, n, f)
			c.take(t, 99)
			c.scene.Latch()
		}
		if !same(s, was) {
			t.Errorf("%d: %+v, not %+v", i, s, was)
		}
		c.check(t, i)
	}
}

// What is written to a snapshot is written to it alone.
func TestSnapshotIsTheAskers(t *testing.T) {
	c := busy(t)
	one, two := c.scene.Latch(), c.scene.Latch()
	was := kept(two)
	for _, x := range one.Items {
		spoilState(x.State)
	}
	spoil(one.Items, Item{Key: key(9, 9)})
	if !same(two, was) {
		t.Errorf("%+v, not %+v", two, was)
	}
	c.check(t, "spoiled")
	// An image that no later effect brings is the scene's still.
	c.run(t, 2, pointed(3, 3), tipped(7, 0, 0))
	c.check(t, "moved")
}

// An effect is not changed, its lists' spare room neither, and not kept: what is written to it behind changes nothing.
func TestEffectsAreLeftAlone(t *testing.T) {
	opaque, damage, frames := make([]api.Rect, 2, 4), make([]api.Rect, 2, 4), make([]int, 2, 4)
	rest := of(9, 9, 9, 9)
	for _, l := range [][]api.Rect{opaque, damage} {
		spoil(l, rest)
		l[0], l[1] = of(0, 0, 1, 1), of(1, 1, 2, 2)
	}
	spoil(frames, 99)
	frames[0], frames[1] = 4, 5
	m := filled(t, 2, 2, red)
	is := state(m, 3, 3)
	is.Opaque = opaque
	c := newBoth()
	c.run(t, 1, shown(6, state(filled(t, 1, 1, blue), 3, 3)))
	for i, f := range []client.Effect{shown(5, is), shown(5, is), ordered(shown(5, is), 3, 0), tipped(5, 0, 0), shown(5, is)} {
		f.Damage, f.Frames = damage, frames
		got := c.change(t, 1, f)
		if !m.Same(filled(t, 2, 2, red)) ||
			!slices.Equal(opaque[:4], list(of(0, 0, 1, 1), of(1, 1, 2, 2), rest, rest)) ||
			!slices.Equal(damage[:4], list(of(0, 0, 1, 1), of(1, 1, 2, 2), rest, rest)) ||
			!slices.Equal(frames[:4], []int{4, 5, 99, 99}) {
			t.Fatal(i, opaque[:4], damage[:4], frames[:4])
		}
		// Nor is what is damaged the effect's own list.
		spoil(got, of(55, 55, 56, 56))
		if !slices.Equal(damage[:2], list(of(0, 0, 1, 1), of(1, 1, 2, 2))) {
			t.Fatal(i, damage)
		}
		c.check(t, i)
	}
	spoilState(is)
	spoil(damage, of(66, 66, 67, 67))
	spoil(frames, 66)
	c.check(t, "spoiled")
	c.take(t, 99)
	m.Fill(m.Box(), green)
	c.check(t, "filled")
}

// One image that several effects bring is each entry's own.
func TestOneImage(t *testing.T) {
	m := filled(t, 1, 1, red)
	c := newBoth()
	c.run(t, 1, shown(5, state(m, 0, 0)))
	m.Fill(m.Box(), green)
	c.run(t, 1, shown(6, state(m, 0, 0)))
	m.Fill(m.Box(), blue)
	c.run(t, 2, shown(5, state(m, 0, 0)))
	m.Fill(m.Box(), 0)
	for i, x := range c.scene.Latch().Items {
		if !x.State.Content.Same([]*image.Image{filled(t, 1, 1, red), filled(t, 1, 1, green), filled(t, 1, 1, blue)}[i]) {
			t.Error(i)
		}
	}
	// A state of the scene's own snapshot may be brought again.
	is := c.scene.Latch().Items[0].State
	c.run(t, 1, shown(6, is))
	is.Content.Fill(m.Box(), 0)
	c.check(t, "again")
}

// Keys, frames and what is damaged are the asker's: written to behind, and with more put behind them.
func TestListsAreTheAskers(t *testing.T) {
	c := busy(t)
	l := c.scene.Keys()
	spoil(l, key(9, 9))
	c.check(t, "spoiled")
	_ = append(c.scene.Keys()[:1], key(8, 8))
	c.check(t, "appended")
	told := c.scene.Keys()
	c.run(t, 1, gone(5))
	c.run(t, 2, ordered(shown(7, state(nil, 0, 0)), 3, 0))
	if !slices.Equal(told, keys(1, 5, 2, 6, 2, 7)) {
		t.Error(told)
	}
	c = busy(t)
	first := c.take(t, 1)
	c.run(t, 1, asking(shown(5, state(nil, 0, 0)), 6, 7, 8, 9))
	spoil(first, Frame{Key: key(9, 9)})
	second := c.take(t, 99)
	if len(second) != 5 || second[0] != (Frame{key(2, 6), 3}) || second[4] != one(5, 9) {
		t.Error(second)
	}
	spoil(second, Frame{Key: key(9, 9)})
	for _, f := range []client.Effect{pointed(1, 1), tipped(7, 3, 3), shown(7, state(nil, 0, 0)), gone(7), damaging(shown(6, state(nil, 0, 0)), of(0, 0, 1, 1))} {
		spoil(c.change(t, 2, f), of(44, 44, 45, 45))
		c.check(t, f)
	}
	c.show(t, "at last")
}

// Of two scenes side by side neither changes the other one.
func TestTwoScenes(t *testing.T) {
	m := filled(t, 2, 2, red)
	a, b := New(), New()
	f := asking(holding(shown(5, state(m, 3, 3)), 1), 4)
	a.Change(1, f)
	if b.K() != 0 {
		t.Error(b.K())
	}
	stands(t, b, nil)
	bare(t, b, at(3, 3))
	takes(t, b, 99)
	b.Change(1, f)
	a.Change(1, tipped(5, 1, 1))
	a.Change(1, pointed(9, 9))
	stands(t, b, keys(1, 5), Item{key(1, 5), state(m, 3, 3), 1})
	if b.Pointer() != at(0, 0) || b.K() != 1 || a.K() != 3 {
		t.Error(b.Pointer(), b.K(), a.K())
	}
	takes(t, a, 99, one(5, 4))
	takes(t, b, 99, one(5, 4))
	b.Change(1, gone(5))
	stands(t, a, keys(1, 5), Item{key(1, 5), state(m, 8, 8), 1})
	shows(t, a, 8, 8, key(1, 5), api.Point{})
	// One's snapshot brought to the other one is that one's own.
	x := a.Latch().Items[0]
	b.Change(2, holding(shown(6, x.State), x.Buffer))
	spoilState(x.State)
	stands(t, a, keys(1, 5), Item{key(1, 5), state(m, 8, 8), 1})
	stands(t, b, keys(2, 6), Item{key(2, 6), state(m, 8, 8), 1})
}

// Frames can be held against each other, and keys too.
func TestCompared(t *testing.T) {
	if one(5, 1) != (Frame{Key: stack.Key{Client: 1, Id: 5}, N: 1}) || one(5, 1) == one(5, 2) || one(5, 1) == one(6, 1) {
		t.Error("frames")
	}
}
