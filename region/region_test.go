package region

import (
	"math"
	"slices"
	"testing"

	"rondel/api"
	"rondel/rect"
)

const far = 1 << 20

func of(x0, y0, x1, y1 int) api.Rect { return api.Rect{X0: x0, Y0: y0, X1: x1, Y1: y1} }

func list(l ...api.Rect) []api.Rect { return l }

// A grid is side by side points, from 0, 0 on: the set of a number has the point x, y if its bit y times side and x is 1.
const (
	side = 3
	sets = 1 << (side * side)
)

func inSet(set, x, y int) bool { return set>>(y*side+x)&1 == 1 }

// written is the region of a set, made from the document's words alone: row by row, and rows that are alike and touch as one.
func written(set int) []api.Rect {
	var l, above []api.Rect
	for y := range side {
		row := rowOf(set, y)
		if alike(above, row) {
			for i := range above {
				l[len(l)-len(above)+i].Y1 = y + 1
			}
		} else {
			l, above = append(l, row...), row
		}
	}
	return l
}

func rowOf(set, y int) []api.Rect {
	var row []api.Rect
	for x := range side {
		switch {
		case !inSet(set, x, y):
		case x > 0 && inSet(set, x-1, y):
			row[len(row)-1].X1 = x + 1
		default:
			row = append(row, of(x, y, x+1, y+1))
		}
	}
	return row
}

func alike(a, b []api.Rect) bool {
	return slices.EqualFunc(a, b, func(r, s api.Rect) bool { return r.X0 == s.X0 && r.X1 == s.X1 })
}

// setOf is the set of the points of any rectangles on the grid.
func setOf(l []api.Rect) int {
	set := 0
	for y := range side {
		for x := range side {
			for _, r := range l {
				if r.X0 <= x && x < r.X1 && r.Y0 <= y && y < r.Y1 {
					set |= 1 << (y*side + x)
				}
			}
		}
	}
	return set
}

// anyRects is every rectangle whose four numbers are from 0 to n, empty ones too.
func anyRects(n int) []api.Rect {
	var l []api.Rect
	for i := range (n + 1) * (n + 1) * (n + 1) * (n + 1) {
		k := n + 1
		l = append(l, of(i%k, i/k%k, i/k/k%k, i/k/k/k))
	}
	return l
}

// isRegion is the chapter's words of a region, one by one.
func isRegion(l []api.Rect) bool {
	var bands [][]api.Rect
	for _, r := range l {
		if r.X0 >= r.X1 || r.Y0 >= r.Y1 {
			return false
		}
		if n := len(bands); n > 0 && bands[n-1][0].Y0 == r.Y0 && bands[n-1][0].Y1 == r.Y1 {
			bands[n-1] = append(bands[n-1], r)
		} else {
			bands = append(bands, []api.Rect{r})
		}
	}
	for i, b := range bands {
		for j := 1; j < len(b); j++ {
			if b[j-1].X1 >= b[j].X0 {
				return false
			}
		}
		if i > 0 && (bands[i-1][0].Y1 > b[0].Y0 || bands[i-1][0].Y1 == b[0].Y0 && alike(bands[i-1], b)) {
			return false
		}
	}
	return true
}

// dice is a row of numbers that is the same each time.
type dice uint64

func (d *dice) roll(n int) int {
	*d = *d*6364136223846793005 + 1442695040888963407
	return int(uint64(*d)>>33) % n
}

// P2.1

func TestMay(t *testing.T) {
	for i, x := range []struct {
		l    []api.Rect
		want bool
	}{
		{nil, true},
		{list(), true},
		{list(of(0, 0, 1, 1)), true},
		{list(of(-9, -9, far+7, far+7)), true},
		{list(of(math.MinInt, math.MinInt, math.MaxInt, math.MaxInt)), true},
		{list(of(0, 0, 0, 0)), false},
		{list(of(0, 0, 0, 4)), false},
		{list(of(0, 0, 4, 0)), false},
		{list(of(4, 4, 0, 0)), false},
		{list(of(math.MaxInt, 0, math.MinInt, 1)), false},
		// One band: apart, touching, over one another, the wrong way round, twice the same.
		{list(of(0, 0, 2, 2), of(3, 0, 4, 2)), true},
		{list(of(0, 0, 2, 2), of(2, 0, 4, 2)), false},
		{list(of(0, 0, 3, 2), of(2, 0, 4, 2)), false},
		{list(of(3, 0, 4, 2), of(0, 0, 2, 2)), false},
		{list(of(0, 0, 2, 2), of(0, 0, 2, 2)), false},
		{list(of(0, 0, 2, 2), of(3, 0, 3, 2), of(5, 0, 6, 2)), false},
		// Two bands: not the same Y1, or not the same Y0, but at one height.
		{list(of(0, 0, 2, 2), of(3, 0, 4, 3)), false},
		{list(of(0, 0, 2, 2), of(3, 1, 4, 2)), false},
		// Two bands: apart, touching, the wrong way round.
		{list(of(0, 0, 2, 2), of(0, 3, 2, 4)), true},
		{list(of(0, 0, 2, 2), of(0, 2, 2, 4)), false},
		{list(of(0, 0, 2, 2), of(0, 2, 3, 4)), true},
		{list(of(0, 0, 2, 2), of(1, 2, 2, 4)), true},
		{list(of(0, 3, 2, 4), of(0, 0, 2, 2)), false},
		{list(of(0, 0, 2, 2), of(2, 2, 4, 4)), true},
		// Touching bands of two rectangles: the same all along, or but for one X, or for one rectangle.
		{list(of(0, 0, 2, 2), of(3, 0, 5, 2), of(0, 2, 2, 4), of(3, 2, 5, 4)), false},
		{list(of(0, 0, 2, 2), of(3, 0, 5, 2), of(0, 2, 2, 4), of(3, 2, 6, 4)), true},
		{list(of(0, 0, 2, 2), of(3, 0, 5, 2), of(0, 2, 2, 4)), true},
		{list(of(0, 0, 2, 2), of(0, 2, 2, 4), of(3, 2, 5, 4)), true},
		{list(of(0, 0, 2, 2), of(3, 0, 5, 2), of(0, 3, 2, 4), of(3, 3, 5, 4)), true},
		// The same bands, but another one between.
		{list(of(0, 0, 2, 1), of(0, 1, 3, 2), of(0, 2, 2, 3)), true},
		{list(of(0, 0, 2, 1), of(0, 1, 3, 2), of(0, 2, 3, 3)), false},
	} {
		if got := May(x.l); got != x.want {
			t.Errorf("%d: May(%v): %v", i, x.l, got)
		}
	}
}

func TestMayOfAllShortLists(t *testing.T) {
	all := anyRects(2)
	l := make([]api.Rect, 3)
	for _, l[0] = range all {
		for _, l[1] = range all {
			for _, l[2] = range all {
				for n := range len(l) + 1 {
					want := isRegion(l[:n])
					if got := May(l[:n]); got != want || want != slices.Equal(l[:n], written(setOf(l[:n]))) {
						t.Fatalf("May(%v): %v", l[:n], got)
					}
				}
			}
		}
	}
}

func TestOf(t *testing.T) {
	for i, x := range []struct{ l, want []api.Rect }{
		{nil, nil},
		{list(), nil},
		{list(of(0, 0, 0, 0)), nil},
		{list(of(4, 4, 0, 0), of(0, 0, 0, 9), of(math.MaxInt, 0, math.MinInt, 1)), nil},
		{list(of(1, 2, 3, 4)), list(of(1, 2, 3, 4))},
		{list(of(0, 0, 2, 2), of(2, 0, 4, 2)), list(of(0, 0, 4, 2))},
		{list(of(2, 0, 4, 2), of(0, 0, 2, 2)), list(of(0, 0, 4, 2))},
		{list(of(0, 0, 2, 2), of(0, 2, 2, 4)), list(of(0, 0, 2, 4))},
		{list(of(0, 0, 2, 2), of(2, 2, 4, 4)), list(of(0, 0, 2, 2), of(2, 2, 4, 4))},
		{list(of(0, 0, 2, 2), of(7, 7, 7, 9), of(3, 0, 4, 2)), list(of(0, 0, 2, 2), of(3, 0, 4, 2))},
		{list(of(0, 0, 9, 9), of(2, 2, 4, 4), of(0, 0, 9, 9)), list(of(0, 0, 9, 9))},
		{list(of(0, 0, 4, 4), of(2, 2, 6, 6)), list(of(0, 0, 4, 2), of(0, 2, 6, 4), of(2, 4, 6, 6))},
		{list(of(0, 1, 3, 2), of(1, 0, 2, 3)), list(of(1, 0, 2, 1), of(0, 1, 3, 2), of(1, 2, 2, 3))},
		{list(of(-5, -5, -3, -3), of(far, far, far+5, far+5)), list(of(-5, -5, -3, -3), of(far, far, far+5, far+5))},
	} {
		if got := Of(x.l...); !slices.Equal(got, x.want) {
			t.Errorf("%d: Of(%v): %v", i, x.l, got)
		}
	}
}

func TestOfShortLists(t *testing.T) {
	all := anyRects(2)
	for _, a := range all {
		for _, b := range all {
			for _, c := range append(list(of(1, 0, 2, 3), of(2, 2, 0, 0)), written(0b101010101)...) {
				if got := Of(a, b, c); !slices.Equal(got, written(setOf(list(a, b, c)))) {
					t.Fatalf("Of(%v, %v, %v): %v", a, b, c, got)
				}
			}
		}
	}
}

func TestOfOneBitAtATime(t *testing.T) {
	for set := range sets {
		var l []api.Rect
		for i := range side * side {
			if y := i % side; inSet(set, i/side, y) {
				l = append(l, of(i/side, y, i/side+1, y+1))
			}
		}
		if got := Of(l...); !slices.Equal(got, written(set)) {
			t.Fatalf("Of(%v): %v", l, got)
		}
	}
}

func TestOfAtTheEndsOfInt(t *testing.T) {
	lo, hi := math.MinInt, math.MaxInt
	for i, x := range []struct{ l, want []api.Rect }{
		{list(of(lo, lo, hi, hi)), list(of(lo, lo, hi, hi))},
		{list(of(lo, lo, 0, hi), of(0, lo, hi, hi)), list(of(lo, lo, hi, hi))},
		{list(of(lo, lo, hi, 0), of(lo, 0, hi, hi)), list(of(lo, lo, hi, hi))},
		{list(of(lo, lo, lo+1, lo+1), of(hi-1, lo, hi, lo+1)), list(of(lo, lo, lo+1, lo+1), of(hi-1, lo, hi, lo+1))},
		{list(of(hi-1, hi-1, hi, hi), of(lo, lo, lo+1, lo+1)), list(of(lo, lo, lo+1, lo+1), of(hi-1, hi-1, hi, hi))},
		{list(of(hi-1, 0, hi, 2), of(hi-2, 1, hi, 3)), list(of(hi-1, 0, hi, 1), of(hi-2, 1, hi, 3))},
	} {
		if got := Of(x.l...); !slices.Equal(got, x.want) || !May(got) {
			t.Errorf("%d: Of(%v): %v", i, x.l, got)
		}
	}
	all, hole := Of(of(lo, lo, hi, hi)), Of(of(-1, -1, 1, 1))
	want := list(of(lo, lo, hi, -1), of(lo, -1, -1, 1), of(1, -1, hi, 1), of(lo, 1, hi, hi))
	if got := Less(all, hole); !slices.Equal(got, want) || !slices.Equal(Other(all, hole), want) || !Same(Union(got, hole), all) || len(Cut(got, hole)) != 0 {
		t.Error(got)
	}
}

func TestOfMany(t *testing.T) {
	// Bars along and bars across: their region has many more rectangles than they are.
	var l []api.Rect
	for i := range 100 {
		l = append(l, of(0, 2*i, 199, 2*i+1), of(2*i, 0, 2*i+1, 199))
	}
	if got := Of(l...); !May(got) || len(got) != 100+99*100 || Area(got) != 199*199-99*99 {
		t.Error(len(got), Area(got))
	}
	l = nil
	for i := range 50000 {
		l = append(l, of(i*7919%50000, i, i*7919%50000+1, i+1))
	}
	if got := Of(l...); len(got) != 50000 || !May(got) {
		t.Error(len(got))
	}
}

func TestTwoSets(t *testing.T) {
	var l [sets][]api.Rect
	for set := range l {
		l[set] = written(set)
		if !May(l[set]) || !isRegion(l[set]) {
			t.Fatal(l[set])
		}
	}
	for a := range l {
		for b := range l {
			for i, x := range []struct {
				got  []api.Rect
				want int
			}{
				{Union(l[a], l[b]), a | b},
				{Cut(l[a], l[b]), a & b},
				{Less(l[a], l[b]), a &^ b},
				{Other(l[a], l[b]), a ^ b},
			} {
				if !slices.Equal(x.got, l[x.want]) {
					t.Fatalf("%d of %v and %v: %v", i, l[a], l[b], x.got)
				}
			}
			if Same(l[a], l[b]) != (a == b) || Covers(l[a], l[b]) != (b&^a == 0) {
				t.Fatalf("same, covers of %v and %v", l[a], l[b])
			}
		}
	}
}

// TestTwoSetsFarApart has more bands, of more rectangles, than the small grid has room for; what they answer is asked point by point.
func TestTwoSetsFarApart(t *testing.T) {
	d := dice(7)
	throw := func() []api.Rect {
		var l []api.Rect
		for range d.roll(12) {
			x, y := d.roll(30)-9, d.roll(30)-9
			l = append(l, of(x, y, x+d.roll(9)-1, y+d.roll(9)-1))
		}
		return Of(l...)
	}
	for range 300 {
		a, b := throw(), throw()
		answers := [][]api.Rect{Union(a, b), Cut(a, b), Less(a, b), Other(a, b)}
		for x := -10; x < 30; x++ {
			for y := -10; y < 30; y++ {
				inA, inB := Has(a, x, y), Has(b, x, y)
				for i, want := range []bool{inA || inB, inA && inB, inA && !inB, inA != inB} {
					if Has(answers[i], x, y) != want {
						t.Fatalf("%d of %v and %v: %v at %d, %d", i, a, b, answers[i], x, y)
					}
				}
			}
		}
		for i, l := range answers {
			if !isRegion(l) {
				t.Fatalf("%d of %v and %v: %v", i, a, b, l)
			}
		}
	}
}

func TestSame(t *testing.T) {
	if !Same(nil, list()) || !Same(list(), nil) || !Same(nil, nil) {
		t.Error("none")
	}
	a := list(of(0, 0, 2, 2), of(3, 0, 4, 2))
	if !Same(a, slices.Clone(a)) || Same(a, a[:1]) || Same(a[:1], a) || Same(a, nil) || Same(nil, a) || Same(a, list(of(0, 0, 2, 2), of(3, 0, 5, 2))) {
		t.Error(a)
	}
}

// P2.2

func TestHas(t *testing.T) {
	for set := range sets {
		l := written(set)
		for x := -1; x <= side; x++ {
			for y := -1; y <= side; y++ {
				want := 0 <= x && x < side && 0 <= y && y < side && inSet(set, x, y)
				if got := Has(l, x, y); got != want {
					t.Fatalf("Has(%v, %d, %d): %v", l, x, y, got)
				}
			}
		}
	}
	all := list(of(math.MinInt, math.MinInt, math.MaxInt, math.MaxInt))
	if Has(nil, 0, 0) || !Has(all, math.MinInt, math.MaxInt-1) || Has(all, math.MaxInt, 0) {
		t.Error("ends")
	}
}

func TestCovers(t *testing.T) {
	ring := list(of(0, 0, 3, 1), of(0, 1, 1, 2), of(2, 1, 3, 2), of(0, 2, 3, 3))
	for i, x := range []struct {
		a, b []api.Rect
		want bool
	}{
		{nil, nil, true},
		{ring, nil, true},
		{nil, ring, false},
		{ring, ring, true},
		{ring, list(of(1, 1, 2, 2)), false},
		{ring, list(of(0, 0, 1, 3)), true},
		{ring, list(of(2, 2, 4, 3)), false},
		{list(of(-1, -1, 4, 4)), ring, true},
	} {
		if got := Covers(x.a, x.b); got != x.want {
			t.Errorf("%d: Covers(%v, %v): %v", i, x.a, x.b, got)
		}
	}
}

func TestMove(t *testing.T) {
	two := list(of(0, 0, 2, 2), of(3, 0, 4, 2), of(1, 2, 9, 3))
	for i, x := range []struct {
		l      []api.Rect
		dx, dy int
		want   []api.Rect
		e      api.Errno
	}{
		{two, 5, -7, list(of(5, -7, 7, -5), of(8, -7, 9, -5), of(6, -5, 14, -4)), api.OK},
		{two, 0, 0, two, api.OK},
		{two, far - 9, far - 3, list(of(far-9, far-3, far-7, far-1), of(far-6, far-3, far-5, far-1), of(far-8, far-1, far, far)), api.OK},
		{two, far - 8, 0, nil, api.ErrRange},
		{two, 0, far - 2, nil, api.ErrRange},
		{two, -far, -far, list(of(-far, -far, 2-far, 2-far), of(3-far, -far, 4-far, 2-far), of(1-far, 2-far, 9-far, 3-far)), api.OK},
		{two, -far - 1, 0, nil, api.ErrRange},
		{two, 0, -far - 1, nil, api.ErrRange},
		{two, math.MaxInt, 0, nil, api.ErrRange},
		{two, 0, math.MinInt, nil, api.ErrRange},
		{nil, 1, 1, nil, api.OK},
		{list(), math.MaxInt, math.MinInt, nil, api.OK},
	} {
		if got, e := Move(x.l, x.dx, x.dy); !slices.Equal(got, x.want) || e != x.e {
			t.Errorf("%d: Move(%v, %d, %d): %v %v", i, x.l, x.dx, x.dy, got, e)
		}
	}
}

// TestMoveByWhatWrapsRound moves regions that are far out of bounds: no sum that wraps round may land in them.
func TestMoveByWhatWrapsRound(t *testing.T) {
	lo, hi := math.MinInt, math.MaxInt
	for i, x := range []struct {
		l []api.Rect
		d int
	}{
		{list(of(hi-1, hi-1, hi, hi)), hi},
		{list(of(hi-9, hi-9, hi-8, hi-8), of(hi-3, hi-7, hi, hi)), hi},
		{list(of(lo, lo, lo+1, lo+1)), lo},
		{list(of(lo, lo, lo+5, lo+5), of(hi-5, hi-5, hi, hi)), lo},
		{list(of(lo, lo, hi, hi)), 1},
		{list(of(lo, lo, hi, hi)), -1},
	} {
		for _, d := range [][2]int{{x.d, 0}, {0, x.d}, {x.d, x.d}} {
			if got, e := Move(x.l, d[0], d[1]); len(got) != 0 || e != api.ErrRange {
				t.Errorf("%d: Move(%v, %d, %d): %v %v", i, x.l, d[0], d[1], got, e)
			}
		}
	}
}

func TestScale(t *testing.T) {
	two := list(of(0, 0, 2, 2), of(3, 0, 4, 2), of(-1, 2, 9, 3))
	for i, x := range []struct {
		l    []api.Rect
		n    int
		want []api.Rect
		e    api.Errno
	}{
		{two, 1, two, api.OK},
		{two, 3, list(of(0, 0, 6, 6), of(9, 0, 12, 6), of(-3, 6, 27, 9)), api.OK},
		{two, 8, list(of(0, 0, 16, 16), of(24, 0, 32, 16), of(-8, 16, 72, 24)), api.OK},
		{two, 0, nil, api.ErrArg},
		{two, 9, nil, api.ErrArg},
		{two, -1, nil, api.ErrArg},
		{two, math.MaxInt, nil, api.ErrArg},
		{two, math.MinInt, nil, api.ErrArg},
		{nil, 1, nil, api.OK},
		{list(), 8, nil, api.OK},
		{nil, 0, nil, api.ErrArg},
		{list(), 9, nil, api.ErrArg},
		{list(of(0, 0, 1, 1), of(0, 1, far/8+1, 2)), 7, list(of(0, 0, 7, 7), of(0, 7, 7*(far/8+1), 14)), api.OK},
		{list(of(0, 0, 1, 1), of(0, 1, far/8+1, 2)), 8, nil, api.ErrRange},
		{list(of(0, 0, 1, 1), of(0, 1, far/8, 2)), 8, list(of(0, 0, 8, 8), of(0, 8, far, 16)), api.OK},
		{list(of(0, 0, far+1, 1)), 1, nil, api.ErrRange},
		{list(of(0, 0, far+1, 1)), 9, nil, api.ErrArg},
	} {
		if got, e := Scale(x.l, x.n); !slices.Equal(got, x.want) || e != x.e {
			t.Errorf("%d: Scale(%v, %d): %v %v", i, x.l, x.n, got, e)
		}
	}
}

func TestMovedAndScaledAreRegions(t *testing.T) {
	for set := range sets {
		l := written(set)
		m, e := Move(l, -2, 3)
		if e != api.OK || !isRegion(m) || Area(m) != Area(l) {
			t.Fatalf("Move(%v): %v %v", l, m, e)
		}
		s, e := Scale(l, 3)
		if e != api.OK || !isRegion(s) || Area(s) != 9*Area(l) {
			t.Fatalf("Scale(%v): %v %v", l, s, e)
		}
		for x := range 3 * side {
			for y := range 3 * side {
				if Has(s, x, y) != inSet(set, x/3, y/3) || x < side && y < side && Has(m, x-2, y+3) != inSet(set, x, y) {
					t.Fatalf("%v: %v %v at %d, %d", l, m, s, x, y)
				}
			}
		}
	}
}

func TestArea(t *testing.T) {
	for set := range sets {
		n := 0
		for i := range side * side {
			n += set >> i & 1
		}
		if got := Area(written(set)); got != n {
			t.Fatalf("Area(%v): %d", written(set), got)
		}
	}
	if got := Area(list(of(-far, -far, far, far))); got != 1<<42 {
		t.Error(got)
	}
	if Area(nil) != 0 {
		t.Error("none")
	}
}

func TestKeep(t *testing.T) {
	three := list(of(0, 0, 2, 2), of(3, 0, 4, 2), of(-1, 5, 1, 9))
	for i, x := range []struct {
		l    []api.Rect
		n    int
		want []api.Rect
	}{
		{three, 3, three},
		{three, 4, three},
		{three, math.MaxInt, three},
		{three, 2, list(of(-1, 0, 4, 9))},
		{three, 1, list(of(-1, 0, 4, 9))},
		{three, 0, nil},
		{three, -1, nil},
		{three, math.MinInt, nil},
		{three[:1], 1, three[:1]},
		{three[:1], 0, nil},
		{nil, 1, nil},
		{nil, 0, nil},
		{list(), -1, nil},
	} {
		if got := Keep(x.l, x.n); !slices.Equal(got, x.want) {
			t.Errorf("%d: Keep(%v, %d): %v", i, x.l, x.n, got)
		}
	}
	var l []api.Rect
	for i := range api.MaxRects + 1 {
		l = append(l, of(2*i, 0, 2*i+1, 1))
	}
	if got := Keep(l[:api.MaxRects], api.MaxRects); !slices.Equal(got, l[:api.MaxRects]) {
		t.Error("64 of 64")
	}
	if got := Keep(l, api.MaxRects); !slices.Equal(got, list(of(0, 0, 2*api.MaxRects+1, 1))) {
		t.Error("64 of 65")
	}
}

// P2.3

// TestSamePointsSameList makes a set in many ways, each of which must tell the same list.
func TestSamePointsSameList(t *testing.T) {
	d := dice(3)
	all := list(of(0, 0, side, side))
	for set := range sets {
		want := written(set)
		rest := Less(all, want)
		shuffled := slices.Clone(want)
		for i := range shuffled {
			j := d.roll(i + 1)
			shuffled[i], shuffled[j] = shuffled[j], shuffled[i]
		}
		for i, got := range [][]api.Rect{
			Of(want...), Of(shuffled...), Of(append(shuffled, want...)...), Union(want, want), Union(want, nil), Union(nil, want),
			Less(all, rest), Cut(all, want), Cut(want, all), Other(all, rest), Other(rest, all), Less(want, nil), Keep(want, 9),
		} {
			if !Same(got, want) || !May(got) {
				t.Fatalf("%d: %v, not %v", i, got, want)
			}
		}
		for i, got := range [][]api.Rect{Less(want, want), Other(want, want), Cut(want, nil), Cut(nil, want), Less(nil, want), Cut(want, rest)} {
			if len(got) != 0 {
				t.Fatalf("%d of %v: %v", i, want, got)
			}
		}
	}
}

// R4

// TestListsAreLeftAlone hands in lists with spare room, and writes over what is answered: nothing of what was handed in may change.
func TestListsAreLeftAlone(t *testing.T) {
	fresh := func() ([]api.Rect, []api.Rect) {
		a := list(of(0, 0, 2, 2), of(3, 0, 5, 2), of(0, 3, 5, 4), of(7, 7, 8, 8), of(9, 9, 1, 1))
		b := list(of(1, 1, 4, 5), of(0, 6, 2, 7), of(8, 8, 9, 9))
		return a, b
	}
	for i, call := range []func(a, b []api.Rect) []api.Rect{
		func(a, b []api.Rect) []api.Rect {
			May(a)
			Has(a, 1, 1)
			Covers(a, b)
			Area(a)
			Same(a, b)
			return nil
		},
		func(a, b []api.Rect) []api.Rect { return Of(a...) },
		func(a, b []api.Rect) []api.Rect { return Of(a[:1]...) },
		func(a, b []api.Rect) []api.Rect { return Union(a, b) },
		func(a, b []api.Rect) []api.Rect { return Union(a, nil) },
		func(a, b []api.Rect) []api.Rect { return Union(nil, b) },
		func(a, b []api.Rect) []api.Rect { return Cut(a, b) },
		func(a, b []api.Rect) []api.Rect { return Cut(a, a) },
		func(a, b []api.Rect) []api.Rect { return Less(a, b) },
		func(a, b []api.Rect) []api.Rect { return Less(a, nil) },
		func(a, b []api.Rect) []api.Rect { return Other(a, b) },
		func(a, b []api.Rect) []api.Rect { l, _ := Move(a, 0, 0); return l },
		func(a, b []api.Rect) []api.Rect { l, _ := Scale(a, 1); return l },
		func(a, b []api.Rect) []api.Rect { return Keep(a, 64) },
		func(a, b []api.Rect) []api.Rect { return Keep(a[:1], 1) },
		func(a, b []api.Rect) []api.Rect { return Keep(a, 1) },
	} {
		a, b := fresh()
		wantA, wantB := fresh()
		got := call(a[:3], b[:2])
		for j := range got {
			got[j] = of(77, 77, 78, 78)
		}
		_ = append(got, of(79, 79, 80, 80))
		if !slices.Equal(a, wantA) || !slices.Equal(b, wantB) {
			t.Errorf("%d: %v %v", i, a, b)
		}
	}
}

// R1

// TestListsThatAreNone hands in lists that are no regions: of what is answered nothing is promised, but it is answered.
func TestListsThatAreNone(t *testing.T) {
	ends := []int{math.MinInt, -far - 1, 0, 1, far, math.MaxInt}
	d := dice(5)
	throw := func() []api.Rect {
		l := make([]api.Rect, d.roll(5))
		for i := range l {
			l[i] = of(ends[d.roll(6)], ends[d.roll(6)], ends[d.roll(6)], ends[d.roll(6)])
		}
		return l
	}
	for range 20000 {
		a, b := throw(), throw()
		for _, l := range [][]api.Rect{Union(a, b), Cut(a, b), Less(a, b), Other(a, b), Keep(a, 2)} {
			Area(l)
		}
		Has(a, 0, 0)
		Covers(a, b)
		Move(a, math.MaxInt, math.MinInt)
		Scale(a, 8)
		if May(a) != isRegion(a) || May(a) != slices.Equal(a, Of(a...)) {
			t.Fatalf("May(%v): %v", a, May(a))
		}
		// Of, of any rectangles, tells a region of just their points: asked where something begins or ends.
		got := Of(a...)
		for _, x := range ends {
			for _, y := range ends {
				if !isRegion(got) || Has(got, x, y) != slices.ContainsFunc(a, func(r api.Rect) bool { return rect.Has(r, x, y) }) {
					t.Fatalf("Of(%v): %v", a, got)
				}
			}
		}
	}
}
