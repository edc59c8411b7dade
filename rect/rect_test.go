package rect

import (
	"math"
	"slices"
	"testing"

	"rondel/api"
)

const far = 1 << 20

func of(x0, y0, x1, y1 int) api.Rect { return api.Rect{X0: x0, Y0: y0, X1: x1, Y1: y1} }

// side is every pair of ends from -1 to 2, those that are the wrong way round too.
func side() [][2]int {
	var l [][2]int
	for a := -1; a <= 2; a++ {
		for b := -1; b <= 2; b++ {
			l = append(l, [2]int{a, b})
		}
	}
	return l
}

// small is every rectangle whose four numbers are from -1 to 2.
func small() []api.Rect {
	var l []api.Rect
	for _, x := range side() {
		for _, y := range side() {
			l = append(l, of(x[0], y[0], x[1], y[1]))
		}
	}
	return l
}

// points is the points of a small rectangle, told point by point from the document's words alone.
func points(r api.Rect) map[api.Point]bool {
	p := map[api.Point]bool{}
	for x := r.X0; x <= r.X1-1; x++ {
		for y := r.Y0; y <= r.Y1-1; y++ {
			p[api.Point{X: x, Y: y}] = true
		}
	}
	return p
}

// round is the least rectangle round points; the zero one of none.
func round(p map[api.Point]bool) api.Rect {
	var h api.Rect
	first := true
	for k := range p {
		if first {
			h, first = of(k.X, k.Y, k.X+1, k.Y+1), false
		}
		h = of(min(h.X0, k.X), min(h.Y0, k.Y), max(h.X1, k.X+1), max(h.Y1, k.Y+1))
	}
	return h
}

// P1.1

func TestMay(t *testing.T) {
	for _, x := range []struct {
		r    api.Rect
		want bool
	}{
		{of(0, 0, 0, 0), true},
		{of(1, 2, 3, 4), true},
		{of(5, 5, 5, 9), true},
		{of(5, 5, 9, 5), true},
		{of(-far, -far, far, far), true},
		{of(far, far, far, far), true},
		{of(-far, -far, -far, -far), true},
		{of(-far-1, 0, 0, 0), false},
		{of(0, -far-1, 0, 0), false},
		{of(0, 0, far+1, 0), false},
		{of(0, 0, 0, far+1), false},
		{of(far+1, 0, far+1, 0), false},
		{of(0, far+1, 0, far+1), false},
		{of(-far-1, 0, -far-1, 0), false},
		{of(0, -far-1, 0, -far-1), false},
		{of(1, 0, 0, 5), false},
		{of(0, 1, 5, 0), false},
		{of(math.MinInt, math.MinInt, math.MaxInt, math.MaxInt), false},
		{of(math.MaxInt, 0, math.MinInt, 0), false},
	} {
		if got := May(x.r); got != x.want {
			t.Errorf("May(%v): %v", x.r, got)
		}
	}
}

func TestEmptyAndHas(t *testing.T) {
	for _, r := range small() {
		p := points(r)
		if got := Empty(r); got != (len(p) == 0) {
			t.Errorf("Empty(%v): %v", r, got)
		}
		for x := -3; x <= 4; x++ {
			for y := -3; y <= 4; y++ {
				if got := Has(r, x, y); got != p[api.Point{X: x, Y: y}] {
					t.Errorf("Has(%v, %d, %d): %v", r, x, y, got)
				}
			}
		}
	}
}

func TestEmptyAndHasAtTheEndsOfInt(t *testing.T) {
	all := of(math.MinInt, math.MinInt, math.MaxInt, math.MaxInt)
	if Empty(all) || !Has(all, math.MinInt, math.MaxInt-1) || Has(all, math.MaxInt, 0) || Has(all, 0, math.MaxInt) {
		t.Error("all")
	}
	for _, none := range []api.Rect{
		of(math.MinInt, math.MinInt, math.MinInt, math.MinInt),
		of(math.MinInt, 0, math.MinInt, 1),
		of(0, math.MinInt, 1, math.MinInt),
	} {
		for _, p := range []api.Point{{X: math.MinInt, Y: 0}, {X: 0, Y: math.MinInt}, {X: math.MaxInt - 1, Y: 0}, {X: 0, Y: math.MaxInt - 1}, {X: 0, Y: 0}} {
			if !Empty(none) || Has(none, p.X, p.Y) {
				t.Error(none, p)
			}
		}
	}
	odd := of(math.MaxInt, math.MaxInt, math.MinInt, math.MinInt)
	if !Empty(odd) || Has(odd, 0, 0) {
		t.Error("odd")
	}
}

func TestCutMeetsCovers(t *testing.T) {
	for _, a := range small() {
		p := points(a)
		for _, b := range small() {
			q := points(b)
			both := map[api.Point]bool{}
			for k := range q {
				if p[k] {
					both[k] = true
				}
			}
			if got := Cut(a, b); got != round(both) || len(points(got)) != len(both) {
				t.Errorf("Cut(%v, %v): %v", a, b, got)
			}
			if got := Meets(a, b); got != (len(both) > 0) {
				t.Errorf("Meets(%v, %v): %v", a, b, got)
			}
			if got := Covers(a, b); got != (len(both) == len(q)) {
				t.Errorf("Covers(%v, %v): %v", a, b, got)
			}
		}
	}
}

func TestCutExamples(t *testing.T) {
	for _, x := range []struct{ a, b, want api.Rect }{
		{of(0, 0, 4, 4), of(4, 0, 8, 4), of(0, 0, 0, 0)},
		{of(0, 0, 4, 4), of(0, 4, 4, 8), of(0, 0, 0, 0)},
		{of(0, 0, 4, 4), of(3, 3, 8, 8), of(3, 3, 4, 4)},
		{of(0, 0, 9, 9), of(2, 3, 5, 7), of(2, 3, 5, 7)},
		{of(0, 0, 9, 9), of(3, 3, 3, 7), of(0, 0, 0, 0)},
		{of(7, 7, 2, 2), of(0, 0, 9, 9), of(0, 0, 0, 0)},
		{of(math.MinInt, math.MinInt, math.MaxInt, math.MaxInt), of(-far, 1, far, 2), of(-far, 1, far, 2)},
	} {
		if got := Cut(x.a, x.b); got != x.want {
			t.Errorf("Cut(%v, %v): %v", x.a, x.b, got)
		}
	}
}

func TestCoversEmpty(t *testing.T) {
	for _, a := range []api.Rect{of(0, 0, 0, 0), of(5, 5, 2, 2), of(0, 0, 4, 4)} {
		for _, b := range []api.Rect{of(9, 9, 9, 9), of(9, 9, 7, 12), of(math.MaxInt, 0, math.MinInt, 1)} {
			if !Covers(a, b) {
				t.Errorf("Covers(%v, %v)", a, b)
			}
		}
	}
}

func TestHullOfTwo(t *testing.T) {
	for _, a := range small() {
		for _, b := range small() {
			p := points(a)
			for k := range points(b) {
				p[k] = true
			}
			if got := Hull(a, b); got != round(p) {
				t.Errorf("Hull(%v, %v): %v", a, b, got)
			}
		}
	}
}

func TestHull(t *testing.T) {
	for _, x := range []struct {
		l    []api.Rect
		want api.Rect
	}{
		{nil, of(0, 0, 0, 0)},
		{[]api.Rect{}, of(0, 0, 0, 0)},
		{[]api.Rect{of(7, 7, 7, 7)}, of(0, 0, 0, 0)},
		{[]api.Rect{of(7, 7, 7, 7), of(9, 1, 3, 5)}, of(0, 0, 0, 0)},
		{[]api.Rect{of(2, 3, 5, 7)}, of(2, 3, 5, 7)},
		{[]api.Rect{of(2, 3, 5, 7), of(0, 0, 0, 0)}, of(2, 3, 5, 7)},
		{[]api.Rect{of(0, 0, 0, 0), of(2, 3, 5, 7)}, of(2, 3, 5, 7)},
		{[]api.Rect{of(2, 3, 5, 7), of(90, 90, 90, 95), of(-4, 6, -3, 8), of(0, 0, 1, 1)}, of(-4, 0, 5, 8)},
		{[]api.Rect{of(math.MinInt, 0, math.MinInt+1, 1), of(math.MaxInt-1, 0, math.MaxInt, 1)}, of(math.MinInt, 0, math.MaxInt, 1)},
	} {
		if got := Hull(x.l...); got != x.want {
			t.Errorf("Hull(%v): %v", x.l, got)
		}
	}
}

func TestHullLeavesItsListAlone(t *testing.T) {
	room := []api.Rect{of(0, 0, 0, 0), of(2, 3, 5, 7), of(1, 1, 9, 9)}
	was := slices.Clone(room)
	Hull(room[:2]...)
	if !slices.Equal(room, was) {
		t.Error(room)
	}
}

// P1.2

func TestMove(t *testing.T) {
	for _, x := range []struct {
		r      api.Rect
		dx, dy int
		want   api.Rect
		e      api.Errno
	}{
		{of(1, 2, 3, 4), 5, -5, of(6, -3, 8, -1), api.OK},
		{of(1, 2, 3, 4), 0, 0, of(1, 2, 3, 4), api.OK},
		{of(3, 3, 3, 3), -3, 4, of(0, 7, 0, 7), api.OK},
		{of(0, 0, 4, 4), far - 4, far - 4, of(far-4, far-4, far, far), api.OK},
		{of(0, 0, 4, 4), far - 3, 0, of(0, 0, 0, 0), api.ErrRange},
		{of(0, 0, 4, 4), 0, far - 3, of(0, 0, 0, 0), api.ErrRange},
		{of(0, 0, 4, 4), -far, -far, of(-far, -far, 4-far, 4-far), api.OK},
		{of(0, 0, 4, 4), -far - 1, 0, of(0, 0, 0, 0), api.ErrRange},
		{of(0, 0, 4, 4), 0, -far - 1, of(0, 0, 0, 0), api.ErrRange},
		{of(-far, -far, -far, -far), 2 * far, 2 * far, of(far, far, far, far), api.OK},
		{of(-far, -far, -far, -far), 2*far + 1, 0, of(0, 0, 0, 0), api.ErrRange},
		{of(far, far, far, far), -2 * far, -2 * far, of(-far, -far, -far, -far), api.OK},
	} {
		if got, e := Move(x.r, x.dx, x.dy); got != x.want || e != x.e {
			t.Errorf("Move(%v, %d, %d): %v %v", x.r, x.dx, x.dy, got, e)
		}
	}
}

func TestMoveByWhatWrapsRound(t *testing.T) {
	rects := []api.Rect{of(0, 0, 0, 0), of(1, 2, 3, 4), of(-far, -far, far, far), of(far, far, far, far), of(-far, -far, -far, -far)}
	for _, d := range []int{math.MaxInt, math.MaxInt - far, math.MinInt, math.MinInt + far, 1 << 32, -1 << 32} {
		for _, r := range rects {
			if got, e := Move(r, d, 0); got != (api.Rect{}) || e != api.ErrRange {
				t.Errorf("Move(%v, %d, 0): %v %v", r, d, got, e)
			}
			if got, e := Move(r, 0, d); got != (api.Rect{}) || e != api.ErrRange {
				t.Errorf("Move(%v, 0, %d): %v %v", r, d, got, e)
			}
		}
	}
}

// TestMoveOfWhatMayNotBe moves rectangles that are far out of bounds, and such of which one number alone wraps round.
func TestMoveOfWhatMayNotBe(t *testing.T) {
	lo, hi := math.MinInt, math.MaxInt
	for _, x := range []struct {
		r      api.Rect
		dx, dy int
	}{
		{of(hi, 0, -hi, 0), hi, 0},
		{of(hi, 0, lo, 0), lo, 0},
		{of(0, hi, 0, -hi), 0, hi},
		{of(0, hi, 0, lo), 0, lo},
		{of(hi-1, 0, hi, 1), hi, 0},
		{of(0, lo, 1, lo+1), 0, lo},
	} {
		if got, e := Move(x.r, x.dx, x.dy); got != (api.Rect{}) || e != api.ErrRange {
			t.Errorf("Move(%v, %d, %d): %v %v", x.r, x.dx, x.dy, got, e)
		}
	}
}

func TestScale(t *testing.T) {
	for _, x := range []struct {
		r    api.Rect
		n    int
		want api.Rect
		e    api.Errno
	}{
		{of(1, -2, 3, 4), 1, of(1, -2, 3, 4), api.OK},
		{of(1, -2, 3, 4), 3, of(3, -6, 9, 12), api.OK},
		{of(1, -2, 3, 4), 8, of(8, -16, 24, 32), api.OK},
		{of(2, 2, 2, 2), 5, of(10, 10, 10, 10), api.OK},
		{of(0, 0, 0, 0), 8, of(0, 0, 0, 0), api.OK},
		{of(-far, -far, far, far), 1, of(-far, -far, far, far), api.OK},
		{of(-far/8, -far/8, far/8, far/8), 8, of(-far, -far, far, far), api.OK},
		{of(0, 0, far/8+1, 4), 8, of(0, 0, 0, 0), api.ErrRange},
		{of(0, 0, 4, far/8+1), 8, of(0, 0, 0, 0), api.ErrRange},
		{of(-far/8-1, 0, 4, 4), 8, of(0, 0, 0, 0), api.ErrRange},
		{of(0, -far/8-1, 4, 4), 8, of(0, 0, 0, 0), api.ErrRange},
		{of(0, 0, 0, 0), 0, of(0, 0, 0, 0), api.ErrArg},
		{of(1, 2, 3, 4), 0, of(0, 0, 0, 0), api.ErrArg},
		{of(1, 2, 3, 4), -1, of(0, 0, 0, 0), api.ErrArg},
		{of(1, 2, 3, 4), 9, of(0, 0, 0, 0), api.ErrArg},
		{of(1, 2, 3, 4), math.MaxInt, of(0, 0, 0, 0), api.ErrArg},
		{of(1, 2, 3, 4), math.MinInt, of(0, 0, 0, 0), api.ErrArg},
		{of(3, 0, 1, 4), 2, of(0, 0, 0, 0), api.ErrRange},
		{of(0, 4, 1, 3), 2, of(0, 0, 0, 0), api.ErrRange},
		{of(0, 0, far+1, 4), 1, of(0, 0, 0, 0), api.ErrRange},
	} {
		if got, e := Scale(x.r, x.n); got != x.want || e != x.e {
			t.Errorf("Scale(%v, %d): %v %v", x.r, x.n, got, e)
		}
	}
}

func TestScaleNamesTheNumberFirst(t *testing.T) {
	for _, n := range []int{0, 9, -8} {
		if got, e := Scale(of(3, 3, 1, 1), n); got != (api.Rect{}) || e != api.ErrArg {
			t.Errorf("Scale of what may not be, %d: %v %v", n, got, e)
		}
	}
}

func TestScaleOfWhatWrapsRound(t *testing.T) {
	for _, r := range []api.Rect{
		of(0, 0, 1<<62, 4), of(0, 0, 4, 1<<62), of(-1<<62, 0, 4, 4), of(1<<61, 1<<61, 1<<61+1, 1<<61+1),
		of(math.MinInt, math.MinInt, math.MinInt, math.MinInt), of(math.MaxInt, math.MaxInt, math.MaxInt, math.MaxInt),
	} {
		for n := 1; n <= 8; n++ {
			if got, e := Scale(r, n); got != (api.Rect{}) || e != api.ErrRange {
				t.Errorf("Scale(%v, %d): %v %v", r, n, got, e)
			}
		}
	}
}

func TestArea(t *testing.T) {
	for _, r := range small() {
		if n := len(points(r)); May(r) && Area(r) != n {
			t.Errorf("Area(%v): %d", r, Area(r))
		}
	}
	if n := Area(of(1, 2, 4, 7)); n != 15 {
		t.Error(n)
	}
	if n := Area(of(-far, -far, far, far)); n != 1<<42 {
		t.Error(n)
	}
	if n := Area(of(-far, 5, far, 5)); n != 0 {
		t.Error(n)
	}
}

func TestCompare(t *testing.T) {
	const least, most = math.MinInt, math.MaxInt
	rising := []api.Rect{
		of(most, least, most, most),
		of(9, -1, 9, 9),
		of(least, 0, most, most),
		of(0, 0, 9, 0),
		of(0, 0, least, 1),
		of(0, 0, 3, 1),
		of(0, 0, 4, 1),
		of(1, 0, 0, least),
		of(1, 0, 0, 0),
		of(least, 1, 0, 0),
		of(least, most, least, least),
	}
	for i, a := range rising {
		for j, b := range rising {
			want := 0
			if i < j {
				want = -1
			} else if i > j {
				want = 1
			}
			if got := Compare(a, b); got != want {
				t.Errorf("Compare(%v, %v): %d", a, b, got)
			}
		}
	}
}

// P1.3

func TestCutAndHullAreEvenHanded(t *testing.T) {
	l := append(small(), of(5, 5, 2, 2), of(-far, 0, far, 1), of(math.MinInt, 0, math.MaxInt, 1))
	for _, a := range l {
		for _, b := range l {
			if Cut(a, b) != Cut(b, a) || Hull(a, b) != Hull(b, a) {
				t.Errorf("%v, %v: %v %v, %v %v", a, b, Cut(a, b), Cut(b, a), Hull(a, b), Hull(b, a))
			}
		}
	}
}

func TestHullOfThreeInAnyRow(t *testing.T) {
	l := []api.Rect{of(0, 0, 0, 0), of(9, 9, 9, 20), of(-4, 2, -3, 5), of(1, -7, 2, -6), of(0, 0, 1, 1), of(3, 3, 1, 1)}
	for _, a := range l {
		for _, b := range l {
			for _, c := range l {
				h := Hull(a, b, c)
				if h != Hull(a, c, b) || h != Hull(b, a, c) || h != Hull(b, c, a) || h != Hull(c, a, b) || h != Hull(c, b, a) || h != Hull(Hull(a, b), c) {
					t.Errorf("%v, %v, %v", a, b, c)
				}
			}
		}
	}
}

func TestEmptyOnesChangeNothing(t *testing.T) {
	empty := []api.Rect{of(0, 0, 0, 0), of(40, 40, 40, 50), of(50, 60, 40, 70), of(math.MaxInt, math.MaxInt, math.MinInt, math.MinInt)}
	for _, r := range small() {
		alone := Hull(r)
		for _, e := range empty {
			if Hull(r, e) != alone || Hull(e, r) != alone || Cut(r, e) != (api.Rect{}) || Cut(e, r) != (api.Rect{}) {
				t.Errorf("%v, %v", r, e)
			}
		}
	}
}
