package request

import (
	"rondel/api"
	"rondel/rect"
	"rondel/title"
)

// operation is what is told of an Op: may tells whether a request's arguments may be.
type operation struct {
	name, form string
	may        func(Request) bool
}

// find is what is told of an Op, if there is such a one.
func find(op int) (operation, bool) {
	if op < 0 || op >= Ops {
		return operation{}, false
	}
	return operations()[op], true
}

// operations is what is told of all Ops.
func operations() [Ops]operation {
	return [Ops]operation{
		Buffer:    {"buffer", "uu", maySides},
		Unbuffer:  {"unbuffer", "", mayAll},
		Write:     {"write", "rb", mayPart},
		Surface:   {"surface", "", mayAll},
		Unsurface: {"unsurface", "", mayAll},
		Attach:    {"attach", "u", mayAll},
		Damage:    {"damage", "r", mayRect},
		Move:      {"move", "ii", mayPlace},
		Raise:     {"raise", "u", mayAll},
		Lower:     {"lower", "", mayAll},
		Scale:     {"scale", "u", mayScale},
		Clip:      {"clip", "r", mayRect},
		Opaque:    {"opaque", "r", mayRect},
		Fade:      {"fade", "u", mayFade},
		Title:     {"title", "s", mayTitle},
		Frame:     {"frame", "u", mayAll},
		Commit:    {"commit", "", mayAll},
		Cursor:    {"cursor", "ii", mayPlace},
		Point:     {"point", "ii", mayPlace},
	}
}

func mayAll(Request) bool { return true }

func maySides(r Request) bool {
	return between(1, api.MaxSide, r.A) && between(1, api.MaxSide, r.B)
}

func mayRect(r Request) bool { return rect.May(r.R) }

func mayPart(r Request) bool { return mayRect(r) && !rect.Empty(r.R) }

func mayPlace(r Request) bool {
	return between(-api.Far, api.Far, r.A) && between(-api.Far, api.Far, r.B)
}

func mayScale(r Request) bool { return between(1, api.MaxScale, r.A) }

func mayFade(r Request) bool { return between(0, 255, r.A) }

func mayTitle(r Request) bool { return title.May(r.Text) }

// between tells whether n is one from least to most.
func between(least, most, n int) bool { return least <= n && n <= most }
