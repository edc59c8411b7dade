package region

import (
	"math"
	"slices"

	"rondel/api"
)

// band is the rectangles of a region between two Ys. Its edges are the Xs at which it begins, or ends to have points, by turns.
type band struct {
	y0, y1 int
	edges  []int
}

// bandsOf is a region's bands.
func bandsOf(l []api.Rect) []band {
	var out []band
	for i, r := range l {
		if i == 0 || r.Y0 != l[i-1].Y0 {
			out = append(out, band{y0: r.Y0, y1: r.Y1})
		}
		last := &out[len(out)-1]
		last.edges = append(last.edges, r.X0, r.X1)
	}
	return out
}

// rectsOf is the rectangles of bands.
func rectsOf(l []band) []api.Rect {
	var out []api.Rect
	for _, b := range l {
		for i := 0; i < len(b.edges); i += 2 {
			out = append(out, api.Rect{X0: b.edges[i], Y0: b.y0, X1: b.edges[i+1], Y1: b.y1})
		}
	}
	return out
}

// goesOn tells whether b is more of what a is, so that both must be one band.
func goesOn(a, b band) bool { return a.y1 == b.y0 && slices.Equal(a.edges, b.edges) }

// add is the bands, and b below them. (A band without edges is harmless: it has no rectangles, and keeps those round it apart.)
func add(l []band, b band) []band {
	if n := len(l); n > 0 && goesOn(l[n-1], b) {
		l[n-1].y1 = b.y1
		return l
	}
	return append(l, b)
}

// merge is the region of the points for which keep holds, told whether a, and whether b has them. Of what neither has, keep must not hold.
func merge(a, b []api.Rect, keep func(inA, inB bool) bool) []api.Rect {
	p, q := bandsOf(a), bandsOf(b)
	ys := heights(p, q)
	var out []band
	for i := 1; i < len(ys); i++ {
		y0, y1 := ys[i-1], ys[i]
		p, q = from(p, y0), from(q, y0)
		out = add(out, band{y0: y0, y1: y1, edges: mergeEdges(edgesAt(p, y0), edgesAt(q, y0), keep)})
	}
	return rectsOf(out)
}

// heights is each Y at which a band of both begins or ends, once.
func heights(p, q []band) []int {
	var ys []int
	for _, l := range [][]band{p, q} {
		for _, b := range l {
			ys = append(ys, b.y0, b.y1)
		}
	}
	slices.Sort(ys)
	return slices.Compact(ys)
}

// from is the bands but those that end at y, or above it.
func from(l []band, y int) []band {
	for len(l) > 0 && l[0].y1 <= y {
		l = l[1:]
	}
	return l
}

// edgesAt is the edges at y of bands none of which ends above it.
func edgesAt(l []band, y int) []int {
	if len(l) == 0 || l[0].y0 > y {
		return nil
	}
	return l[0].edges
}

// mergeEdges is what merge keeps of a row: its edges.
func mergeEdges(a, b []int, keep func(inA, inB bool) bool) []int {
	var out []int
	i, j := 0, 0
	for i < len(a) || j < len(b) {
		x := math.MaxInt
		if i < len(a) {
			x = a[i]
		}
		if j < len(b) {
			x = min(x, b[j])
		}
		if i < len(a) && a[i] == x {
			i++
		}
		if j < len(b) && b[j] == x {
			j++
		}
		// Behind an odd number of edges there are points, behind an even one none: out must change as what is kept does.
		if keep(i%2 == 1, j%2 == 1) != (len(out)%2 == 1) {
			out = append(out, x)
		}
	}
	return out
}
