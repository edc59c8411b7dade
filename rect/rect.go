// Package rect is layer 1: see shared/doc/01-rect.md.
package rect

import (
	"cmp"

	"rondel/api"
)

// May tells whether a rectangle may be.
func May(r api.Rect) bool {
	return -api.Far <= r.X0 && r.X0 <= r.X1 && r.X1 <= api.Far &&
		-api.Far <= r.Y0 && r.Y0 <= r.Y1 && r.Y1 <= api.Far
}

// Empty tells whether a rectangle has no points.
func Empty(r api.Rect) bool { return r.X0 >= r.X1 || r.Y0 >= r.Y1 }

// Has tells whether a rectangle has a point.
func Has(r api.Rect, x, y int) bool {
	return r.X0 <= x && x < r.X1 && r.Y0 <= y && y < r.Y1
}

// Cut is the points that both have.
func Cut(a, b api.Rect) api.Rect {
	c := api.Rect{
		X0: max(a.X0, b.X0), Y0: max(a.Y0, b.Y0),
		X1: min(a.X1, b.X1), Y1: min(a.Y1, b.Y1),
	}
	if Empty(c) {
		return api.Rect{}
	}
	return c
}

// Meets tells whether both have a point.
func Meets(a, b api.Rect) bool { return Cut(a, b) != api.Rect{} }

// Covers tells whether one has all points of another one.
func Covers(a, b api.Rect) bool { return Empty(b) || Cut(a, b) == b }

// Hull is the least rectangle round all.
func Hull(l ...api.Rect) api.Rect {
	var h api.Rect
	for _, r := range l {
		if !Empty(r) {
			h = join(h, r)
		}
	}
	return h
}

// join is the least rectangle round h and r; the zero h stands for no points yet, as it is no rectangle that has any.
func join(h, r api.Rect) api.Rect {
	if h == (api.Rect{}) {
		return r
	}
	return api.Rect{
		X0: min(h.X0, r.X0), Y0: min(h.Y0, r.Y0),
		X1: max(h.X1, r.X1), Y1: max(h.Y1, r.Y1),
	}
}

// Move is a rectangle that is moved.
func Move(r api.Rect, dx, dy int) (api.Rect, api.Errno) {
	// Of an r that may be, no sum wraps round into bounds; but regions are moved by this, too, and theirs may be anywhere.
	if wraps(r.X0, dx) || wraps(r.X1, dx) || wraps(r.Y0, dy) || wraps(r.Y1, dy) {
		return api.Rect{}, api.ErrRange
	}
	m := api.Rect{X0: r.X0 + dx, Y0: r.Y0 + dy, X1: r.X1 + dx, Y1: r.Y1 + dy}
	if !May(m) {
		return api.Rect{}, api.ErrRange
	}
	return m, api.OK
}

// wraps tells whether the sum of both is no int.
func wraps(a, b int) bool { return (a+b < a) != (b < 0) }

// Scale is a rectangle so many times.
func Scale(r api.Rect, n int) (api.Rect, api.Errno) {
	if n < 1 || n > api.MaxScale {
		return api.Rect{}, api.ErrArg
	}
	// r is looked at ahead of its products: of any r they could wrap round into bounds.
	if !May(r) {
		return api.Rect{}, api.ErrRange
	}
	s := api.Rect{X0: n * r.X0, Y0: n * r.Y0, X1: n * r.X1, Y1: n * r.Y1}
	if !May(s) {
		return api.Rect{}, api.ErrRange
	}
	return s, api.OK
}

// Area is how many points a rectangle has.
func Area(r api.Rect) int { return (r.X1 - r.X0) * (r.Y1 - r.Y0) }

// Compare is which rectangle comes first.
func Compare(a, b api.Rect) int {
	return cmp.Or(
		cmp.Compare(a.Y0, b.Y0), cmp.Compare(a.X0, b.X0),
		cmp.Compare(a.Y1, b.Y1), cmp.Compare(a.X1, b.X1),
	)
}
