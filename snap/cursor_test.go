package snap

import (
	"slices"
	"testing"

	"rondel/api"
	"rondel/client"
	"rondel/surface"
)

// cursorAt is a scene with the cursor 1 5, of the image m and the tip 1, 2, with the pointer there.
func cursorAt(t *testing.T, s surface.State, x, y int) *Scene {
	t.Helper()
	c := New()
	c.Change(1, shown(5, s))
	c.Change(1, tipped(5, 1, 2))
	c.Change(2, pointed(x, y))
	return c
}

// A cursor is shown at the pointer less its tip, wherever it was committed; the tip is of the canvas, and not scaled.
func TestCursor(t *testing.T) {
	m := filled(t, 3, 4, red)
	for _, scale := range []int{1, 2, 8} {
		is := state(m, 70, 80)
		is.Scale = scale
		s := cursorAt(t, is, 10, 20)
		is.At = at(9, 18)
		stands(t, s, keys(1, 5), Item{key(1, 5), is, -1})
		shows(t, s, 9, 18, key(1, 5), at(0, 0))
		shows(t, s, 9+3*scale-1, 18+4*scale-1, key(1, 5), at(2, 3))
		bare(t, s, at(8, 18), at(9, 17), at(9+3*scale, 18), at(70, 80))
		damages(t, s, 1, gone(5), of(9, 18, 9+3*scale, 18+4*scale))
	}
}

// The pointer may have moved ahead of what makes a cursor, and ahead of the Shown.
func TestPointerAhead(t *testing.T) {
	m := filled(t, 2, 2, red)
	s := New()
	damages(t, s, 9, pointed(10, 20))
	damages(t, s, 1, shown(5, state(m, 0, 0)), of(0, 0, 2, 2))
	stands(t, s, keys(1, 5), Item{key(1, 5), state(m, 0, 0), -1})
	damages(t, s, 9, pointed(30, 40))
	damages(t, s, 1, tipped(5, 1, 2), of(0, 0, 2, 2), of(29, 38, 31, 40))
	stands(t, s, keys(1, 5), Item{key(1, 5), state(m, 29, 38), -1})
	damages(t, s, 9, pointed(-3, -4), of(-4, -6, -2, -4), of(29, 38, 31, 40))
	stands(t, s, keys(1, 5), Item{key(1, 5), state(m, -4, -6), -1})
}

// Tipped again: the last tip counts, and is told of nothing that was ahead of it.
func TestTippedAgain(t *testing.T) {
	m := filled(t, 2, 2, red)
	s := cursorAt(t, state(m, 0, 0), 10, 20)
	damages(t, s, 1, tipped(5, 0, 0), of(9, 18, 11, 20), of(10, 20, 12, 22))
	damages(t, s, 1, tipped(5, -5, 0), of(10, 20, 12, 22), of(15, 20, 17, 22))
	stands(t, s, keys(1, 5), Item{key(1, 5), state(m, 15, 20), -1})
	// The same one damages what is shown, too.
	damages(t, s, 1, tipped(5, -5, 0), of(15, 20, 17, 22))
	stands(t, s, keys(1, 5), Item{key(1, 5), state(m, 15, 20), -1})
}

// A pointer that stays where it is damages the cursors, too.
func TestPointedAgain(t *testing.T) {
	m := filled(t, 2, 2, red)
	s := cursorAt(t, state(m, 0, 0), 10, 20)
	damages(t, s, 1, pointed(10, 20), of(9, 18, 11, 20))
	if s.Pointer() != at(10, 20) {
		t.Error(s.Pointer())
	}
}

// A cursor that is shown again stays one, with its tip; what is damaged is of Boxes, whatever its Damage is.
func TestCursorShownAgain(t *testing.T) {
	m, n := filled(t, 2, 2, red), filled(t, 1, 3, blue)
	s := cursorAt(t, state(m, 0, 0), 10, 20)
	damages(t, s, 1, damaging(holding(shown(5, state(m, 50, 60)), 4), of(0, 0, 1, 1)), of(9, 18, 11, 20))
	stands(t, s, keys(1, 5), Item{key(1, 5), state(m, 9, 18), 4})
	damages(t, s, 1, damaging(shown(5, state(n, 50, 60)), of(0, 0, 1, 1)), of(9, 18, 11, 20), of(9, 20, 10, 21))
	stands(t, s, keys(1, 5), Item{key(1, 5), state(n, 9, 18), -1})
	damages(t, s, 1, damaging(shown(5, state(nil, 50, 60)), of(0, 0, 1, 1)), of(9, 18, 10, 21))
	stands(t, s, keys(1, 5))
	damages(t, s, 1, damaging(shown(5, state(nil, 50, 60)), of(0, 0, 1, 1)))
	damages(t, s, 1, pointed(0, 0))
	damages(t, s, 1, tipped(5, 3, 3))
	damages(t, s, 1, damaging(shown(5, state(m, 50, 60)), of(0, 0, 1, 1)), of(-3, -3, -1, -1))
	stands(t, s, keys(1, 5), Item{key(1, 5), state(m, -3, -3), -1})
	// With an order, too.
	s.Change(1, shown(6, state(nil, 0, 0)))
	damages(t, s, 1, damaging(ordered(shown(5, state(m, 50, 60)), 2, 0), of(0, 0, 1, 1)), of(-3, -3, -1, -1))
	stands(t, s, keys(1, 6, 1, 5), Item{key(1, 5), state(m, -3, -3), -1})
}

// An entry that has no image yet may be a cursor; one that is gone is none, and its key's next one neither.
func TestCursorComesAndGoes(t *testing.T) {
	m := filled(t, 2, 2, red)
	s := cursorAt(t, state(nil, 0, 0), 10, 20)
	stands(t, s, keys(1, 5))
	damages(t, s, 1, shown(5, state(m, 0, 0)), of(9, 18, 11, 20))
	damages(t, s, 1, gone(5), of(9, 18, 11, 20))
	damages(t, s, 1, pointed(0, 0))
	damages(t, s, 1, shown(5, state(m, 3, 3)), of(3, 3, 5, 5))
	damages(t, s, 1, pointed(7, 7))
	damages(t, s, 1, damaging(shown(5, state(m, 3, 3)), of(1, 1, 2, 2)), of(1, 1, 2, 2))
	stands(t, s, keys(1, 5), Item{key(1, 5), state(m, 3, 3), -1})
}

// Of several cursors all go with the pointer, each by its own tip; what is none stays.
func TestCursors(t *testing.T) {
	m := filled(t, 2, 1, red)
	s := New()
	for n := range 3 {
		for id := range 3 {
			s.Change(n, shown(id, state(m, 10*n, 10*id)))
		}
	}
	row := keys(0, 0, 0, 1, 0, 2, 1, 0, 1, 1, 1, 2, 2, 0, 2, 1, 2, 2)
	damages(t, s, 0, tipped(1, 5, 0), of(-5, 0, -3, 1), of(0, 10, 2, 11))
	damages(t, s, 2, tipped(1, 0, 5), of(0, -5, 2, -4), of(20, 10, 22, 11))
	damages(t, s, 1, tipped(2, 0, 5), of(0, -5, 2, -4), of(10, 20, 12, 21))
	damages(t, s, 7, pointed(1, 100), of(0, -5, 2, -4), of(-5, 0, -3, 1), of(1, 95, 3, 96), of(-4, 100, -2, 101))
	is := func(x, y int) surface.State { return state(m, x, y) }
	stands(t, s, row,
		Item{key(0, 0), is(0, 0), -1}, Item{key(0, 1), is(-4, 100), -1}, Item{key(0, 2), is(0, 20), -1},
		Item{key(1, 0), is(10, 0), -1}, Item{key(1, 1), is(10, 10), -1}, Item{key(1, 2), is(1, 95), -1},
		Item{key(2, 0), is(20, 0), -1}, Item{key(2, 1), is(1, 95), -1}, Item{key(2, 2), is(20, 20), -1},
	)
	shows(t, s, 1, 95, key(2, 1), at(0, 0))
	damages(t, s, 2, gone(1), of(1, 95, 3, 96))
	shows(t, s, 2, 95, key(1, 2), at(1, 0))
	damages(t, s, 7, pointed(1, 100), of(1, 95, 3, 96), of(-4, 100, -2, 101))
}

// Where its layer may not be, a cursor shows nothing: it has no item, and no Box. It is there still, and comes again.
func TestCursorThatMayNotBe(t *testing.T) {
	m := filled(t, 2, 2, red)
	s := New()
	s.Change(1, asking(holding(shown(5, state(m, 3, 3)), 6), 1))
	damages(t, s, 1, tipped(5, 1, 1), of(-1, -1, 1, 1), of(3, 3, 5, 5))
	// Of the image's 2 points 1 would be beyond: all of it is gone.
	damages(t, s, 1, pointed(far, 0), of(-1, -1, 1, 1))
	stands(t, s, keys(1, 5))
	bare(t, s, at(far-1, 0), at(far-1, -1), at(far, 0), at(-1, -1), at(3, 3))
	damages(t, s, 1, pointed(far, 0))
	damages(t, s, 1, damaging(asking(holding(shown(5, state(m, 3, 3)), 7), 2), of(3, 3, 4, 4)))
	stands(t, s, keys(1, 5))
	damages(t, s, 1, pointed(far-1, 0), of(far-2, -1, far, 1))
	stands(t, s, keys(1, 5), Item{key(1, 5), state(m, far-2, -1), 7})
	shows(t, s, far-1, 0, key(1, 5), at(1, 1))
	damages(t, s, 1, pointed(0, -far), of(far-2, -1, far, 1))
	damages(t, s, 1, tipped(5, 1, 1))
	damages(t, s, 1, tipped(5, 1, 0), of(-1, -far, 1, -far+2))
	damages(t, s, 1, tipped(5, 0, 1), of(-1, -far, 1, -far+2))
	// A smaller one may be there where a bigger one may not; and one that is gone there damages nothing.
	damages(t, s, 1, pointed(far-1, far-1))
	stands(t, s, keys(1, 5))
	small := filled(t, 1, 1, blue)
	damages(t, s, 1, tipped(5, 0, 0))
	damages(t, s, 1, shown(5, state(small, 0, 0)), of(far-1, far-1, far, far))
	damages(t, s, 1, shown(5, state(m, 0, 0)), of(far-1, far-1, far, far))
	damages(t, s, 1, ordered(shown(5, state(m, 0, 0)), 2, 0))
	takes(t, s, 99, Frame{key(1, 5), 1}, Frame{key(1, 5), 2})
	damages(t, s, 1, gone(5))
	stands(t, s, nil)
}

// A scale, too, may let it be nowhere; a clip does not, as all of the image counts.
func TestCursorThatMayNotBeByScale(t *testing.T) {
	m := filled(t, 2, 2, red)
	is := state(m, 0, 0)
	is.Scale = 8
	is.Clip = of(0, 0, 1, 1)
	s := cursorAt(t, is, far-15, 2)
	stands(t, s, keys(1, 5), Item{key(1, 5), surface.State{Content: m, At: at(far-16, 0), Scale: 8, Alpha: 255, Clip: is.Clip}, -1})
	shows(t, s, far-9, 7, key(1, 5), at(0, 0))
	bare(t, s, at(far-8, 7))
	damages(t, s, 1, pointed(far-14, 2), of(far-16, 0, far-8, 8))
	stands(t, s, keys(1, 5))
	is.Scale = 7
	damages(t, s, 1, shown(5, is), of(far-15, 0, far-8, 7))
}

// The pointer and the tip at each bound and beside it: the cursor is there just if its place, and its end, are in bounds.
func TestCursorAtTheBounds(t *testing.T) {
	ends := []int{-far, -far + 1, -2, -1, 0, 1, 2, far - 1, far}
	m := filled(t, 2, 1, red)
	for _, p := range ends {
		for _, tip := range ends {
			for _, size := range []int{1, 2} {
				is := state(m, 0, 0)
				is.Scale = size
				n := p - tip
				c := newBoth()
				c.run(t, 1, shown(5, is), tipped(5, tip, 0), pointed(p, 0))
				c.check(t, "x")
				if l := c.scene.Latch().Items; (len(l) == 1) != (-far <= n && n+2*size <= far) {
					t.Fatal("x", p, tip, size, l)
				}
				c = newBoth()
				c.run(t, 1, pointed(0, p), shown(5, is), tipped(5, 0, tip))
				c.check(t, "y")
				if l := c.scene.Latch().Items; (len(l) == 1) != (-far <= n && n+size <= far) {
					t.Fatal("y", p, tip, size, l)
				}
				c.run(t, 1, pointed(p, p), tipped(5, tip, tip), pointed(tip, p), pointed(p, tip), gone(5))
			}
		}
	}
	for _, p := range []api.Point{at(-far, far), at(far, -far), at(far, far), at(-far, -far)} {
		s := New()
		damages(t, s, 1, pointed(p.X, p.Y))
		if s.Pointer() != p {
			t.Error(p, s.Pointer())
		}
	}
}

// A place that was committed at a bound does not count of a cursor, and counts again of a new entry.
func TestPlaceOfACursor(t *testing.T) {
	m := filled(t, 2, 2, red)
	s := cursorAt(t, state(m, far-2, -far), 10, 20)
	stands(t, s, keys(1, 5), Item{key(1, 5), state(m, 9, 18), -1})
	s.Change(1, shown(5, state(m, -far, far-2)))
	stands(t, s, keys(1, 5), Item{key(1, 5), state(m, 9, 18), -1})
	s.Change(1, gone(5))
	damages(t, s, 1, shown(5, state(m, -far, far-2)), of(-far, far-2, -far+2, far))
}

// A cursor stands in the stack as others do: what is over it hides it, as At tells.
func TestCursorUnderOthers(t *testing.T) {
	m := filled(t, 4, 4, half)
	s := New()
	s.Change(1, shown(5, state(m, 0, 0)))
	s.Change(1, shown(6, state(m, 0, 0)))
	s.Change(1, tipped(5, 0, 0))
	s.Change(1, pointed(2, 2))
	shows(t, s, 3, 3, key(1, 6), at(3, 3))
	shows(t, s, 4, 4, key(1, 5), at(2, 2))
	damages(t, s, 1, ordered(shown(5, state(m, 0, 0)), 1, 6), of(2, 2, 6, 6))
	shows(t, s, 3, 3, key(1, 5), at(1, 1))
	shows(t, s, 1, 1, key(1, 6), at(1, 1))
	damages(t, s, 1, ordered(shown(6, state(m, 0, 0)), 2, 0), of(0, 0, 4, 4))
	shows(t, s, 3, 3, key(1, 6), at(3, 3))
}

// Other fields of Tipped and Pointed say nothing, and those of Gone neither.
func TestOtherFields(t *testing.T) {
	m := filled(t, 2, 2, red)
	full := func(kind, id int) client.Effect {
		return client.Effect{
			Kind: kind, Id: id, State: state(m, 7, 7), Damage: list(of(0, 0, 1, 1)), Frames: []int{5},
			Buffer: 3, Order: 3, Over: 1, X: 4, Y: 6,
		}
	}
	for _, kind := range []int{client.Gone, client.Tipped, client.Pointed} {
		a, b := newBoth(), newBoth()
		for _, c := range []both{a, b} {
			c.run(t, 1, shown(1, state(m, 0, 0)), asking(shown(5, state(m, 3, 3)), 9), tipped(1, 1, 1))
		}
		f := full(kind, 5)
		spare := client.Effect{Kind: kind, Id: 5, X: 4, Y: 6}
		if got, want := a.change(t, 1, f), b.change(t, 1, spare); !slices.Equal(got, want) {
			t.Error(kind, got, want)
		}
		if !same(a.scene.Latch(), b.scene.Latch()) || !slices.Equal(a.scene.Keys(), b.scene.Keys()) || a.scene.Pointer() != b.scene.Pointer() {
			t.Error(kind, a.scene.Latch(), b.scene.Latch())
		}
		a.show(t, kind)
	}
	// Of Shown X and Y say nothing; of Pointed the Id neither.
	s := New()
	s.Change(1, full(client.Shown, 5))
	if s.Pointer() != at(0, 0) {
		t.Error(s.Pointer())
	}
	stands(t, s, keys(1, 5), Item{key(1, 5), state(m, 7, 7), 3})
}
