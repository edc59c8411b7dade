package snap

import (
	"slices"

	"rondel/api"
	"rondel/client"
	"rondel/paint"
	"rondel/region"
	"rondel/stack"
	"rondel/surface"
)

// The orders of an effect.
const (
	overOne = 1
	onTop   = 2
	lowest  = 3
)

// entry is what is kept of a key. The image and the list of its state are the scene's own, handed out to nobody.
type entry struct {
	surface.State
	buffer int
	cursor bool
	tip    api.Point // of a cursor
}

// shows is what it shows, while the pointer is there.
func (e entry) shows(pointer api.Point) surface.State {
	if e.cursor {
		e.At = api.Point{X: pointer.X - e.tip.X, Y: pointer.Y - e.tip.Y}
	}
	if !paint.May(surface.Layer(e.State)) {
		e.Content = nil
	}
	return e.State
}

// own is a state that shares nothing with the one that is handed in.
func own(s surface.State) surface.State {
	if s.Content != nil {
		s.Content = s.Content.Clone()
	}
	s.Opaque = slices.Clone(s.Opaque)
	return s
}

// show lets a key show what was committed: what is damaged.
func (s *Scene) show(k stack.Key, f client.Effect) []api.Rect {
	row := s.stack.All()
	round := s.round(func() {
		s.stack.Add(k)
		e := s.entries[k]
		e.State, e.buffer = own(f.State), f.Buffer
		s.entries[k] = e
		s.order(k, f)
	}, k)
	for _, n := range f.Frames {
		s.asked = append(s.asked, asked{Frame: Frame{Key: k, N: n}, change: s.changes})
	}
	// Where the stack is as it was, the entry was there, too.
	if !s.entries[k].cursor && slices.Equal(row, s.stack.All()) {
		return region.Of(f.Damage...)
	}
	return round
}

// order does an effect's order; of keys that do not stand there nothing is done.
func (s *Scene) order(k stack.Key, f client.Effect) {
	switch f.Order {
	case overOne:
		s.stack.Raise(k, stack.Key{Client: k.Client, Id: f.Over})
	case onTop:
		s.stack.Top(k)
	case lowest:
		s.stack.Lower(k)
	}
}

// drop lets a key, and its entry, be there no more: what is damaged.
func (s *Scene) drop(k stack.Key) []api.Rect {
	s.asked = slices.DeleteFunc(s.asked, func(a asked) bool { return a.Key == k })
	return s.round(func() {
		s.stack.Drop(k)
		delete(s.entries, k)
	}, k)
}

// tip lets a key's entry be a cursor: what is damaged.
func (s *Scene) tip(k stack.Key, at api.Point) []api.Rect {
	e, ok := s.entries[k]
	if !ok {
		return nil
	}
	return s.round(func() {
		e.cursor, e.tip = true, at
		s.entries[k] = e
	}, k)
}

// point lets the pointer be there: what is damaged.
func (s *Scene) point(at api.Point) []api.Rect {
	return s.round(func() { s.pointer = at }, s.cursors()...)
}

// cursors is the keys whose entries are cursors.
func (s *Scene) cursors() []stack.Key {
	return slices.DeleteFunc(s.stack.All(), func(k stack.Key) bool { return !s.entries[k].cursor })
}

// round does what changes the entries of keys: the region round what they showed, and what they show.
func (s *Scene) round(change func(), l ...stack.Key) []api.Rect {
	was := s.boxes(l)
	change()
	return region.Of(append(was, s.boxes(l)...)...)
}

// boxes is where the entries of keys are shown.
func (s *Scene) boxes(l []stack.Key) []api.Rect {
	var told []api.Rect
	for _, k := range l {
		// Of a key without an entry it is the zero one, as there is no image.
		told = append(told, surface.Box(s.entries[k].shows(s.pointer)))
	}
	return told
}
