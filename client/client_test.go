package client

import (
	"math"
	"slices"
	"testing"

	"rondel/api"
	"rondel/event"
	"rondel/image"
	"rondel/request"
	"rondel/surface"
)

// quiet asks what tells nothing, and effects nothing.
func quiet(t *testing.T, c *Client, l ...request.Request) {
	t.Helper()
	for _, r := range l {
		if told, effects := c.Do(r); len(told) > 0 || len(effects) > 0 {
			t.Fatalf("%s: %v, %+v: %+v", request.Name(r.Op), told, effects, r)
		}
	}
}

// refused asks what tells an error alone.
func refused(t *testing.T, c *Client, r request.Request, e api.Errno) {
	t.Helper()
	want := event.Event{Kind: 0, Id: r.Id, A: int(e), B: r.Op}
	if told, effects := c.Do(r); len(told) != 1 || told[0] != want || len(effects) > 0 {
		t.Fatalf("%s: %v, %+v, not %v: %+v", request.Name(r.Op), told, effects, want, r)
	}
}

// commit commits a surface: what it effects, while these buffers are told to be released.
func commit(t *testing.T, c *Client, id int, free ...int) Effect {
	t.Helper()
	told, effects := c.Do(ask(request.Commit, id))
	if !slices.Equal(told, release(free...)) || len(effects) != 1 {
		t.Fatalf("commit of %d: %v, %+v, not %v", id, told, effects, free)
	}
	if f := effects[0]; f.Kind != 0 || f.Id != id || f.X != 0 || f.Y != 0 {
		t.Fatalf("commit of %d: %+v", id, f)
	}
	return effects[0]
}

// held looks how often the buffers 0, 1, .. are held.
func held(t *testing.T, c *Client, want ...int) {
	t.Helper()
	for n, times := range want {
		if c.Held(n) != times {
			t.Fatal("held", n, c.Held(n), times)
		}
	}
}

// filled is an image of one color.
func filled(t *testing.T, w, h int, c api.Color) *image.Image {
	t.Helper()
	m, e := image.New(w, h)
	if e != api.OK || m.Fill(m.Box(), c) != w*h {
		t.Fatal(w, h, c, e)
	}
	return m
}

// first is the state of a new surface.
func first() surface.State {
	return surface.State{Scale: 1, Alpha: 255, Clip: all()}
}

const red, green, blue = 0xffff0000, 0xff00ff00, 0xff0000ff

// dressed has the buffers 1 and 2 (0 and 1) of 2 by 2, red and green, and the surfaces 3 and 4.
func dressed(t *testing.T) *Client {
	t.Helper()
	c := New()
	quiet(t, c, dress()...)
	return c
}

func dress() []request.Request {
	return []request.Request{
		ask(request.Buffer, 1, 2, 2), ask(request.Buffer, 2, 2, 2), ask(request.Surface, 3), ask(request.Surface, 4),
		askWrite(1, of(0, 0, 2, 2), red), askWrite(2, of(0, 0, 2, 2), green),
	}
}

// The chapter's own example.
func TestExample(t *testing.T) {
	c := New()
	quiet(t, c, ask(request.Surface, 1))
	f := commit(t, c, 1)
	if want := (Effect{Kind: Shown, Id: 1, State: first(), Buffer: -1}); !same(f, want) {
		t.Errorf("%+v", f)
	}
}

func TestKinds(t *testing.T) {
	if Shown != 0 || Gone != 1 || Tipped != 2 || Pointed != 3 {
		t.Error(Shown, Gone, Tipped, Pointed)
	}
}

// P15.1: what each operation does

// A new client has nothing: all that is asked of an id tells ErrNone, but what makes one.
func TestNewHasNothing(t *testing.T) {
	b := newBoth()
	b.check(t, "new")
	for op := range request.Ops {
		for _, id := range []int{1, 2, 32, 1<<32 - 1} {
			r := ask(op, id)
			switch op {
			case request.Buffer, request.Surface, request.Point:
				continue
			case request.Scale:
				r.A = 1
			case request.Write:
				r = askWrite(id, of(0, 0, 1, 1), red)
			}
			if e := b.words.wrong(r); e != api.ErrNone {
				t.Fatal(r, e)
			}
			b.do(t, r)
			refused(t, b.client, r, api.ErrNone)
			b.check(t, r)
		}
	}
	for _, n := range append([]int{0, 1, 2}, someNumbers...) {
		if e := b.hold(t, n); e != api.ErrNone {
			t.Error(n, e)
		}
		if l := b.let(t, n); len(l) != 0 {
			t.Error(n, l)
		}
	}
	if l := b.close(t); len(l) != 0 {
		t.Error(l)
	}
	b.check(t, "closed")
}

// Error tells what it is handed, whatever that is.
func TestError(t *testing.T) {
	c := dressed(t)
	for op := range request.Ops {
		for _, id := range []int{0, 1, 3, 9, 1<<32 - 1} {
			for e := api.OK; e <= api.ErrOp; e++ {
				r := request.Request{Op: op, Id: id, A: 7, B: 8, R: of(1, 2, 3, 4), Text: "tea", Data: []byte{5}}
				if got, want := c.Error(r, e), (event.Event{Kind: 0, Id: id, A: int(e), B: op}); got != want {
					t.Error(got, want)
				}
			}
		}
	}
	if got, want := c.Error(ask(-7, -8), -9), (event.Event{Id: -8, A: -9, B: -7}); got != want {
		t.Error(got, want)
	}
	// It is told alone: nothing of it is done.
	if !slices.Equal(c.Buffers(), []int{1, 2}) || !slices.Equal(c.Surfaces(), []int{3, 4}) {
		t.Error(c.Buffers(), c.Surfaces())
	}
}

// A buffer has the sides that were asked for, is all 0, and has the next number.
func TestBuffer(t *testing.T) {
	for _, s := range [][2]int{{1, 1}, {1, 256}, {256, 1}, {256, 256}, {2, 3}, {3, 2}} {
		c := New()
		quiet(t, c, ask(request.Surface, 9), ask(request.Buffer, 1, 5, 5), ask(request.Buffer, 2, s[0], s[1]))
		if !slices.Equal(c.Buffers(), []int{1, 2}) || !slices.Equal(c.Surfaces(), []int{9}) {
			t.Error(c.Buffers(), c.Surfaces())
		}
		held(t, c, 0, 0)
		quiet(t, c, ask(request.Attach, 9, 2), askOf(request.Damage, 9, all()))
		f := commit(t, c, 9)
		if f.Buffer != 1 || !f.State.Content.Same(filled(t, s[0], s[1], 0)) || !slices.Equal(f.Damage, []api.Rect{of(0, 0, s[0], s[1])}) {
			t.Error(s, f.Buffer, f.State.Content.Box(), f.Damage)
		}
		held(t, c, 0, 1)
	}
}

// What is written is what is shown, once it is damaged and committed: what was written last of each point, until the commit.
func TestWrite(t *testing.T) {
	c := dressed(t)
	want := filled(t, 2, 2, red)
	quiet(t, c, ask(request.Attach, 3, 1), askOf(request.Damage, 3, of(0, 0, 2, 1)))
	// It is attached, and not held: it is written to still.
	quiet(t, c, askWrite(1, of(1, 0, 2, 2), blue))
	want.Fill(of(1, 0, 2, 2), blue)
	want.Fill(of(0, 1, 2, 2), 0)
	f := commit(t, c, 3)
	if f.Buffer != 0 || !f.State.Content.Same(want) || !slices.Equal(f.Damage, []api.Rect{of(0, 0, 2, 2)}) {
		t.Errorf("%+v", f)
	}
	refused(t, c, askWrite(1, of(0, 0, 1, 1), green), api.ErrBusy)
	// What was not damaged then comes with the next commit.
	quiet(t, c, askOf(request.Damage, 3, of(1, 1, 2, 2)))
	want.Fill(of(1, 1, 2, 2), blue)
	if f = commit(t, c, 3); f.Buffer != 0 || !f.State.Content.Same(want) || !slices.Equal(f.Damage, []api.Rect{of(1, 1, 2, 2)}) {
		t.Errorf("%+v", f)
	}
	// The other one was not written to.
	quiet(t, c, ask(request.Attach, 3, 2), askOf(request.Damage, 3, all()))
	if f = commit(t, c, 3, 1); f.Buffer != 1 || !f.State.Content.Same(filled(t, 2, 2, green)) {
		t.Errorf("%+v", f)
	}
}

// What is set of a surface is told by its next commit, and stays so: of that surface alone.
func TestSet(t *testing.T) {
	with := func(change func(*surface.State)) surface.State {
		s := first()
		s.Content = filled(t, 2, 2, red)
		change(&s)
		return s
	}
	for i, x := range []struct {
		r    request.Request
		want surface.State
	}{
		{ask(request.Move, 3, 5, -6), with(func(s *surface.State) { s.At = api.Point{X: 5, Y: -6} })},
		{ask(request.Move, 3, -far, far-2), with(func(s *surface.State) { s.At = api.Point{X: -far, Y: far - 2} })},
		{ask(request.Scale, 3, 8), with(func(s *surface.State) { s.Scale = 8 })},
		{ask(request.Scale, 3, 2), with(func(s *surface.State) { s.Scale = 2 })},
		{askOf(request.Clip, 3, of(1, 0, 9, 2)), with(func(s *surface.State) { s.Clip = of(1, 0, 9, 2) })},
		{askOf(request.Clip, 3, of(4, 4, 4, 4)), with(func(s *surface.State) { s.Clip = of(4, 4, 4, 4) })},
		{askOf(request.Opaque, 3, of(1, 0, 9, 2)), with(func(s *surface.State) { s.Opaque = []api.Rect{of(1, 0, 2, 2)} })},
		{ask(request.Fade, 3, 0), with(func(s *surface.State) { s.Alpha = 0 })},
		{ask(request.Fade, 3, 254), with(func(s *surface.State) { s.Alpha = 254 })},
		{askTitle(3, "日本 tea"), with(func(s *surface.State) { s.Title = "日本 tea" })},
	} {
		c := dressed(t)
		quiet(t, c, ask(request.Attach, 3, 1), askOf(request.Damage, 3, all()), x.r)
		f := commit(t, c, 3)
		box := surface.Box(x.want)
		var damage []api.Rect
		if box != (api.Rect{}) {
			damage = []api.Rect{box}
		}
		if want := (Effect{Id: 3, State: x.want, Damage: damage}); !same(f, want) {
			t.Errorf("%d: %+v, not %+v", i, f, want)
		}
		if f = commit(t, c, 3); !same(f, Effect{Id: 3, State: x.want}) {
			t.Errorf("%d again: %+v", i, f)
		}
		if f = commit(t, c, 4); !same(f, Effect{Id: 4, State: first(), Buffer: -1}) {
			t.Errorf("%d: the other one: %+v", i, f)
		}
	}
}

// The frames are told in their row, each as often as it was asked for, once.
func TestFrame(t *testing.T) {
	c := dressed(t)
	quiet(t, c, ask(request.Frame, 3, 7), ask(request.Frame, 4, 1), ask(request.Frame, 3, 0), ask(request.Frame, 3, 1<<32-1), ask(request.Frame, 3, 7))
	if f := commit(t, c, 3); !slices.Equal(f.Frames, []int{7, 0, 1<<32 - 1, 7}) {
		t.Error(f.Frames)
	}
	quiet(t, c, ask(request.Frame, 3, 2))
	if f := commit(t, c, 3); !slices.Equal(f.Frames, []int{2}) {
		t.Error(f.Frames)
	}
	if f := commit(t, c, 3); len(f.Frames) != 0 {
		t.Error(f.Frames)
	}
	if f := commit(t, c, 4); !slices.Equal(f.Frames, []int{1}) {
		t.Error(f.Frames)
	}
}

// An order is told by the next commit alone; the last one counts.
func TestOrder(t *testing.T) {
	over, top, low := ask(request.Raise, 3, 4), ask(request.Raise, 3, 0), ask(request.Lower, 3)
	other := ask(request.Raise, 3, 5)
	for i, x := range []struct {
		l           []request.Request
		order, over int
	}{
		{nil, 0, 0},
		{[]request.Request{over}, 1, 4},
		{[]request.Request{other}, 1, 5},
		{[]request.Request{top}, 2, 0},
		{[]request.Request{low}, 3, 0},
		{[]request.Request{over, other}, 1, 5},
		{[]request.Request{over, top}, 2, 0},
		{[]request.Request{over, low}, 3, 0},
		{[]request.Request{top, over}, 1, 4},
		{[]request.Request{top, low}, 3, 0},
		{[]request.Request{low, top}, 2, 0},
		{[]request.Request{low, over}, 1, 4},
		// The one below it may be destroyed by then, and its id may be another one's.
		{[]request.Request{over, ask(request.Surface, 6)}, 1, 4},
	} {
		c := dressed(t)
		quiet(t, c, ask(request.Surface, 5))
		quiet(t, c, x.l...)
		if f := commit(t, c, 4); f.Order != 0 || f.Over != 0 {
			t.Errorf("%d: the other one: %+v", i, f)
		}
		if f := commit(t, c, 3); f.Order != x.order || f.Over != x.over {
			t.Errorf("%d: %+v", i, f)
		}
		if f := commit(t, c, 3); f.Order != 0 || f.Over != 0 {
			t.Errorf("%d again: %+v", i, f)
		}
	}
}

// The order is over an id: it is told so, though that was destroyed, made again, or is a buffer's then.
func TestOrderOverWhatIsGone(t *testing.T) {
	for i, l := range [][]request.Request{
		nil,
		{ask(request.Surface, 4)},
		{ask(request.Buffer, 4, 1, 1)},
	} {
		c := dressed(t)
		quiet(t, c, ask(request.Raise, 3, 4))
		if told, effects := c.Do(ask(request.Unsurface, 4)); len(told) != 0 || len(effects) != 1 {
			t.Fatal(told, effects)
		}
		quiet(t, c, l...)
		if f := commit(t, c, 3); f.Order != 1 || f.Over != 4 {
			t.Errorf("%d: %+v", i, f)
		}
	}
}

// A new surface of an old id has nothing of the old one: no state, no buffer, nothing pending, no order.
func TestSurfaceAgain(t *testing.T) {
	c := dressed(t)
	for range 3 {
		quiet(t, c, ask(request.Attach, 3, 1), ask(request.Move, 3, 5, 5), ask(request.Scale, 3, 2), ask(request.Fade, 3, 9),
			askOf(request.Clip, 3, of(0, 0, 1, 1)), askOf(request.Opaque, 3, all()), askTitle(3, "tea"), ask(request.Frame, 3, 5), ask(request.Raise, 3, 4))
		if f := commit(t, c, 3); f.Buffer != 0 || f.Order != 1 {
			t.Errorf("%+v", f)
		}
		quiet(t, c, ask(request.Attach, 3, 2), ask(request.Move, 3, 6, 6), askOf(request.Damage, 3, all()), ask(request.Frame, 3, 5), ask(request.Lower, 3))
		told, effects := c.Do(ask(request.Unsurface, 3))
		if !slices.Equal(told, release(1)) || len(effects) != 1 || !same(effects[0], Effect{Kind: Gone, Id: 3}) {
			t.Fatal(told, effects)
		}
		held(t, c, 0, 0)
		refused(t, c, ask(request.Commit, 3), api.ErrNone)
		quiet(t, c, ask(request.Surface, 3))
		if f := commit(t, c, 3); !same(f, Effect{Id: 3, State: first(), Buffer: -1}) {
			t.Errorf("%+v", f)
		}
		quiet(t, c, ask(request.Attach, 3, 1))
		if f := commit(t, c, 3); f.Buffer != 0 || !f.State.Content.Same(filled(t, 2, 2, 0)) {
			t.Errorf("%+v", f)
		}
		quiet(t, c, ask(request.Attach, 3, 0))
		commit(t, c, 3, 1)
	}
}

// A cursor's tip, and where the pointer is, are told at once, and nothing of them later.
func TestCursorAndPoint(t *testing.T) {
	c := dressed(t)
	for _, p := range []api.Point{{}, {X: 1, Y: 2}, {X: -far, Y: far}, {X: far, Y: -far}, {X: -1}} {
		told, effects := c.Do(ask(request.Cursor, 3, p.X, p.Y))
		if len(told) != 0 || len(effects) != 1 || !same(effects[0], Effect{Kind: Tipped, Id: 3, X: p.X, Y: p.Y}) {
			t.Error(p, told, effects)
		}
		for _, d := range []*Client{c, New()} {
			told, effects = d.Do(ask(request.Point, 0, p.X, p.Y))
			if len(told) != 0 || len(effects) != 1 || !same(effects[0], Effect{Kind: Pointed, X: p.X, Y: p.Y}) {
				t.Error(p, told, effects)
			}
		}
	}
	for id := 3; id <= 4; id++ {
		if f := commit(t, c, id); !same(f, Effect{Id: id, State: first(), Buffer: -1}) {
			t.Errorf("%+v", f)
		}
	}
	refused(t, c, ask(request.Cursor, 1, 2, 3), api.ErrRole)
	refused(t, c, ask(request.Cursor, 5, 2, 3), api.ErrNone)
}

// P15.1: what is refused

// refusals are requests that a client refuses which is dressed, whose surface 4 has committed the buffer 2, and whose surface 5 is too far out to be committed.
var refusals = []struct {
	r request.Request
	e api.Errno
}{
	{ask(request.Buffer, 1, 1, 1), api.ErrExist},
	{ask(request.Buffer, 3, 1, 1), api.ErrExist},
	{ask(request.Surface, 1), api.ErrExist},
	{ask(request.Surface, 3), api.ErrExist},
	{ask(request.Unbuffer, 3), api.ErrRole},
	{ask(request.Unbuffer, 9), api.ErrNone},
	{ask(request.Unsurface, 1), api.ErrRole},
	{ask(request.Unsurface, 9), api.ErrNone},
	{askWrite(3, of(0, 0, 1, 1), blue), api.ErrRole},
	{askWrite(9, of(0, 0, 1, 1), blue), api.ErrNone},
	{askWrite(2, of(0, 0, 1, 1), blue), api.ErrBusy},
	{askWrite(1, of(0, 0, 3, 2), blue), api.ErrRange},
	{askWrite(1, of(-1, 0, 2, 2), blue), api.ErrRange},
	{askWrite(1, of(0, 2, 1, 3), blue), api.ErrRange},
	{request.Request{Op: request.Write, Id: 1, R: of(0, 0, 2, 2), Data: make([]byte, 15)}, api.ErrShort},
	{request.Request{Op: request.Write, Id: 1, R: of(0, 0, 1, 1)}, api.ErrShort},
	{request.Request{Op: request.Write, Id: 1, R: of(0, 0, 2, 2), Data: make([]byte, 17)}, api.ErrForm},
	{request.Request{Op: request.Write, Id: 1, R: of(0, 0, 1, 1), Data: []byte{1, 2, 0, 0}}, api.ErrArg},
	{request.Request{Op: request.Write, Id: 1, R: of(0, 0, 2, 1), Data: []byte{255, 9, 9, 9, 8, 9, 8, 8}}, api.ErrArg},
	// Of several errors the first one.
	{askWrite(2, of(0, 0, 3, 2), blue), api.ErrBusy},
	{request.Request{Op: request.Write, Id: 2, R: of(0, 0, 1, 1)}, api.ErrBusy},
	{request.Request{Op: request.Write, Id: 3, R: of(0, 0, 1, 1)}, api.ErrRole},
	{request.Request{Op: request.Write, Id: 9, R: of(0, 0, 1, 1)}, api.ErrNone},
	{request.Request{Op: request.Write, Id: 1, R: of(5, 5, 6, 6)}, api.ErrRange},
	{ask(request.Attach, 1, 1), api.ErrRole},
	{ask(request.Attach, 1, 0), api.ErrRole},
	{ask(request.Attach, 9, 1), api.ErrNone},
	{ask(request.Attach, 9, 0), api.ErrNone},
	{ask(request.Attach, 3, 4), api.ErrRole},
	{ask(request.Attach, 3, 3), api.ErrRole},
	{ask(request.Attach, 3, 9), api.ErrNone},
	{ask(request.Attach, 3, 1<<32-1), api.ErrNone},
	{ask(request.Attach, 9, 3), api.ErrNone},
	{ask(request.Attach, 1, 9), api.ErrRole},
	{ask(request.Raise, 1, 0), api.ErrRole},
	{ask(request.Raise, 9, 0), api.ErrNone},
	{ask(request.Raise, 1, 3), api.ErrRole},
	{ask(request.Raise, 9, 3), api.ErrNone},
	{ask(request.Raise, 3, 1), api.ErrRole},
	{ask(request.Raise, 3, 9), api.ErrNone},
	{ask(request.Raise, 3, 3), api.ErrArg},
	{ask(request.Raise, 9, 9), api.ErrNone},
	{ask(request.Raise, 1, 1), api.ErrRole},
	{ask(request.Raise, 9, 1), api.ErrNone},
	{ask(request.Raise, 1, 9), api.ErrRole},
	{ask(request.Commit, 1), api.ErrRole},
	{ask(request.Commit, 9), api.ErrNone},
	{ask(request.Commit, 5), api.ErrRange},
}

// setters are those operations that no more is told of than Find.
func setters(id int) []request.Request {
	return []request.Request{
		askOf(request.Damage, id, of(0, 0, 1, 1)), ask(request.Move, id, 1, 2), ask(request.Lower, id), ask(request.Scale, id, 3),
		askOf(request.Clip, id, of(0, 0, 1, 1)), askOf(request.Opaque, id, of(0, 0, 1, 1)), ask(request.Fade, id, 4), askTitle(id, "tea"),
		ask(request.Frame, id, 5), ask(request.Cursor, id, 6, 7),
	}
}

// refusing is a client for refusals: of each surface something is pending.
func refusing(t *testing.T) both {
	t.Helper()
	b := newBoth()
	b.run(t, dress()...)
	b.run(t, ask(request.Attach, 4, 2), askOf(request.Damage, 4, all()), ask(request.Commit, 4), ask(request.Surface, 5))
	b.run(t, ask(request.Attach, 3, 1), askOf(request.Damage, 3, of(0, 0, 1, 2)), ask(request.Raise, 3, 4), ask(request.Frame, 3, 8))
	b.run(t, ask(request.Attach, 4, 1), askOf(request.Damage, 4, of(0, 1, 2, 2)), ask(request.Lower, 4), ask(request.Frame, 4, 9))
	b.run(t, ask(request.Attach, 5, 2), askOf(request.Damage, 5, of(0, 1, 1, 2)), ask(request.Raise, 5, 3), ask(request.Frame, 5, 6), ask(request.Move, 5, far-1, 0))
	return b
}

// Each error is told alone, and changes nothing: all that is told and shown later is as if it had not been asked.
func TestRefused(t *testing.T) {
	l := slices.Clone(refusals)
	for _, r := range slices.Concat(setters(1), setters(2)) {
		l = append(l, struct {
			r request.Request
			e api.Errno
		}{r, api.ErrRole})
	}
	for _, r := range slices.Concat(setters(9), setters(1<<32-1)) {
		l = append(l, struct {
			r request.Request
			e api.Errno
		}{r, api.ErrNone})
	}
	for i, x := range l {
		b := refusing(t)
		refused(t, b.client, x.r, x.e)
		b.check(t, i)
		if told, effects := b.do(t, x.r); len(effects) != 0 || !slices.Equal(told, refusal(x.r, x.e)) {
			t.Fatal(i, told, effects)
		}
		b.run(t, ask(request.Commit, 3), ask(request.Move, 5, 0, 0))
		b.show(t, i)
	}
}

// Of all the refusals, one behind the other, nothing comes.
func TestAllRefused(t *testing.T) {
	b := refusing(t)
	for range 3 {
		for _, x := range refusals {
			refused(t, b.client, x.r, x.e)
		}
	}
	b.check(t, "refused")
	b.run(t, ask(request.Move, 5, 0, 0))
	b.show(t, "refused")
}

// A commit that is refused leaves all pending as it is, and the buffers held as they are; once it may be, all of it is told.
func TestCommitRefused(t *testing.T) {
	for _, far := range []request.Request{
		ask(request.Move, 3, far-1, 0), ask(request.Move, 3, 0, far-1), ask(request.Move, 3, far, far),
	} {
		c := dressed(t)
		quiet(t, c, ask(request.Attach, 3, 1), askOf(request.Damage, 3, all()))
		commit(t, c, 3)
		quiet(t, c, ask(request.Attach, 3, 2), askOf(request.Damage, 3, of(0, 0, 1, 2)), ask(request.Frame, 3, 5), ask(request.Raise, 3, 4), askTitle(3, "tea"), far)
		for range 2 {
			refused(t, c, ask(request.Commit, 3), api.ErrRange)
			held(t, c, 1, 0)
		}
		refused(t, c, askWrite(1, of(0, 0, 1, 1), blue), api.ErrBusy)
		quiet(t, c, askWrite(2, of(0, 0, 2, 2), blue), ask(request.Frame, 3, 6), ask(request.Move, 3, 4, 4))
		want := filled(t, 2, 2, red)
		want.Fill(of(0, 0, 1, 2), blue)
		s := first()
		s.Content, s.Title, s.At = want, "tea", api.Point{X: 4, Y: 4}
		f := commit(t, c, 3, 1)
		if !same(f, Effect{Id: 3, State: s, Damage: []api.Rect{of(0, 0, 2, 2), of(4, 4, 6, 6)}, Frames: []int{5, 6}, Buffer: 1, Order: 1, Over: 4}) {
			t.Errorf("%+v", f)
		}
		held(t, c, 0, 1)
	}
	// By its scale, where its place may be.
	c := dressed(t)
	quiet(t, c, ask(request.Attach, 3, 1), ask(request.Move, 3, far-2, 0))
	commit(t, c, 3)
	quiet(t, c, ask(request.Scale, 3, 2))
	refused(t, c, ask(request.Commit, 3), api.ErrRange)
	// Without an image any place may be.
	quiet(t, c, ask(request.Attach, 3, 0), ask(request.Move, 3, far, far))
	if f := commit(t, c, 3, 1); f.State.Content != nil || f.State.At != (api.Point{X: far, Y: far}) || f.State.Scale != 2 || f.Buffer != -1 {
		t.Errorf("%+v", f)
	}
}

// A client has 32 objects at most, of both kinds together; ErrExist stands ahead of ErrQuota; an id that is dropped leaves room.
func TestQuota(t *testing.T) {
	for buffers := 0; buffers <= 32; buffers += 8 {
		b := newBoth()
		for i := range 32 {
			r := ask(request.Surface, 100+i)
			if i < buffers {
				r = ask(request.Buffer, 100+i, 1, 1)
			}
			quiet(t, b.client, r)
			b.words.do(t, r)
		}
		b.check(t, buffers)
		full := func() {
			t.Helper()
			for _, id := range []int{1, 99, 132, 1<<32 - 1} {
				refused(t, b.client, ask(request.Surface, id), api.ErrQuota)
				refused(t, b.client, ask(request.Buffer, id, 1, 1), api.ErrQuota)
			}
			for _, id := range []int{100, 131} {
				refused(t, b.client, ask(request.Surface, id), api.ErrExist)
				refused(t, b.client, ask(request.Buffer, id, 1, 1), api.ErrExist)
			}
			b.check(t, buffers)
		}
		full()
		for i := range 32 {
			r := ask(request.Unsurface, 100+i)
			if i < buffers {
				r = ask(request.Unbuffer, 100+i)
			}
			b.do(t, r)
			b.run(t, ask(request.Buffer, 7, 1, 1), ask(request.Surface, 8), ask(request.Unbuffer, 7), ask(request.Surface, 7), ask(request.Unsurface, 7))
			b.do(t, ask(request.Surface, 100+i))
			full()
		}
		b.show(t, buffers)
	}
}

// A buffer that is destroyed, and held still, is no object any more: neither its id nor its room is taken.
func TestQuotaOfHeld(t *testing.T) {
	b := newBoth()
	for id := 2; id <= 32; id++ {
		b.run(t, ask(request.Surface, id))
	}
	for n := range 40 {
		b.run(t, ask(request.Buffer, 1, 1, 1), ask(request.Attach, 2+n%31, 1), ask(request.Commit, 2+n%31))
		b.hold(t, n)
		b.run(t, ask(request.Buffer, 1, 1, 1), ask(request.Buffer, 99, 1, 1), ask(request.Unbuffer, 1), ask(request.Surface, 1), ask(request.Unsurface, 1))
		b.check(t, n)
	}
	b.show(t, "held")
}

// Any id may be, of either kind.
func TestAnyId(t *testing.T) {
	ids := []int{1<<32 - 1, 1, 1 << 31, 255, 256, 1<<31 - 1, 257, 65536, 2, 1<<32 - 2}
	b := newBoth()
	for i, id := range ids {
		if i%2 == 0 {
			b.run(t, ask(request.Buffer, id, 1+i, 1))
		} else {
			b.run(t, ask(request.Surface, id), ask(request.Attach, id, ids[i-1]), ask(request.Commit, id))
		}
		b.check(t, id)
	}
	if l := b.client.Buffers(); !slices.Equal(l, []int{2, 256, 257, 1 << 31, 1<<32 - 1}) {
		t.Error(l)
	}
	if l := b.client.Surfaces(); !slices.Equal(l, []int{1, 255, 65536, 1<<31 - 1, 1<<32 - 2}) {
		t.Error(l)
	}
	b.show(t, "any")
}

// P15.1: buffers that are attached, committed, and destroyed

// The attached buffer is held from the commit on, until the next one that has another one; then the old one is released.
func TestRelease(t *testing.T) {
	c := dressed(t)
	quiet(t, c, ask(request.Attach, 3, 1))
	held(t, c, 0, 0)
	if f := commit(t, c, 3); f.Buffer != 0 {
		t.Error(f.Buffer)
	}
	held(t, c, 1, 0)
	// Attaching another one lets nothing.
	quiet(t, c, ask(request.Attach, 3, 2))
	held(t, c, 1, 0)
	refused(t, c, askWrite(1, of(0, 0, 1, 1), blue), api.ErrBusy)
	quiet(t, c, askWrite(2, of(0, 0, 1, 1), blue))
	if f := commit(t, c, 3, 1); f.Buffer != 1 {
		t.Error(f.Buffer)
	}
	held(t, c, 0, 1)
	quiet(t, c, askWrite(1, of(0, 0, 1, 1), blue))
	refused(t, c, askWrite(2, of(0, 0, 1, 1), blue), api.ErrBusy)
	quiet(t, c, ask(request.Attach, 3, 0))
	held(t, c, 0, 1)
	if f := commit(t, c, 3, 2); f.Buffer != -1 || f.State.Content != nil {
		t.Errorf("%+v", f)
	}
	held(t, c, 0, 0)
	if f := commit(t, c, 3); f.Buffer != -1 {
		t.Error(f.Buffer)
	}
}

// The same buffer, committed once more, is held once still, and nothing is released: attached again or not, also by way of another one.
func TestCommittedAgain(t *testing.T) {
	c := dressed(t)
	quiet(t, c, ask(request.Attach, 3, 1))
	for range 5 {
		if f := commit(t, c, 3); f.Buffer != 0 {
			t.Error(f.Buffer)
		}
		held(t, c, 1, 0)
		quiet(t, c, ask(request.Attach, 3, 1))
		if f := commit(t, c, 3); f.Buffer != 0 {
			t.Error(f.Buffer)
		}
		held(t, c, 1, 0)
		quiet(t, c, ask(request.Attach, 3, 2), ask(request.Attach, 3, 0), ask(request.Attach, 3, 1))
	}
	quiet(t, c, ask(request.Attach, 3, 0))
	commit(t, c, 3, 1)
	held(t, c, 0, 0)
}

// Two surfaces hold a buffer twice: the last one that lets it tells the release.
func TestTwoSurfaces(t *testing.T) {
	for i, lets := range [][2]request.Request{
		{ask(request.Attach, 3, 2), ask(request.Attach, 4, 2)},
		{ask(request.Attach, 3, 0), ask(request.Unsurface, 4)},
		{ask(request.Unsurface, 3), ask(request.Unsurface, 4)},
		{ask(request.Unsurface, 4), ask(request.Attach, 3, 0)},
	} {
		c := dressed(t)
		quiet(t, c, ask(request.Attach, 3, 1), ask(request.Attach, 4, 1))
		commit(t, c, 3)
		held(t, c, 1, 0)
		commit(t, c, 4)
		held(t, c, 2, 0)
		for j, r := range lets {
			told, effects := c.Do(r)
			if r.Op == request.Attach {
				if len(told) != 0 || len(effects) != 0 {
					t.Fatal(i, j, told, effects)
				}
				told, effects = c.Do(ask(request.Commit, r.Id))
			}
			var want []event.Event
			if j == 1 {
				want = release(1)
			}
			if !slices.Equal(told, want) || len(effects) != 1 {
				t.Fatal(i, j, told, effects)
			}
			held(t, c, 1-j)
		}
		quiet(t, c, askWrite(1, of(0, 0, 1, 1), blue))
	}
}

// A surface that is destroyed lets what it has committed, not what it has attached.
func TestUnsurface(t *testing.T) {
	for i, x := range []struct {
		l    []request.Request
		free []int
	}{
		{nil, nil},
		{[]request.Request{ask(request.Attach, 3, 1)}, nil},
		{[]request.Request{ask(request.Commit, 3)}, nil},
		{[]request.Request{ask(request.Attach, 3, 1), ask(request.Commit, 3)}, []int{1}},
		{[]request.Request{ask(request.Attach, 3, 1), ask(request.Commit, 3), ask(request.Attach, 3, 2)}, []int{1}},
		{[]request.Request{ask(request.Attach, 3, 1), ask(request.Commit, 3), ask(request.Attach, 3, 0)}, []int{1}},
		{[]request.Request{ask(request.Attach, 3, 2), ask(request.Commit, 3), ask(request.Attach, 4, 2)}, []int{2}},
		{[]request.Request{ask(request.Attach, 3, 1), ask(request.Commit, 3), ask(request.Attach, 4, 1), ask(request.Commit, 4)}, nil},
		{[]request.Request{ask(request.Attach, 3, 1), ask(request.Commit, 3), ask(request.Unbuffer, 1)}, nil},
		{[]request.Request{ask(request.Attach, 3, 1), ask(request.Commit, 3), ask(request.Unbuffer, 1), ask(request.Buffer, 1, 2, 2)}, nil},
		{[]request.Request{ask(request.Attach, 3, 1), ask(request.Commit, 3), ask(request.Move, 3, far, 0), ask(request.Commit, 3)}, []int{1}},
	} {
		b := newBoth()
		b.run(t, dress()...)
		b.run(t, x.l...)
		told, effects := b.do(t, ask(request.Unsurface, 3))
		if !slices.Equal(told, release(x.free...)) || len(effects) != 1 || !same(effects[0], Effect{Kind: Gone, Id: 3}) {
			t.Errorf("%d: %v, %+v", i, told, effects)
		}
		if l := b.client.Surfaces(); !slices.Equal(l, []int{4}) {
			t.Error(i, l)
		}
		for _, r := range append(setters(3), ask(request.Commit, 3), ask(request.Unsurface, 3), ask(request.Attach, 3, 2), ask(request.Raise, 3, 0)) {
			refused(t, b.client, r, api.ErrNone)
		}
		b.show(t, i)
	}
}

// A buffer that is destroyed is attached to no surface any more: each one's next commit is without an image, and lets what it held.
func TestUnbuffer(t *testing.T) {
	for i, x := range []struct {
		l    []request.Request
		free [2][]int // by the next commits of 3 and of 4
		has  [2]int   // the buffers that they hold then
	}{
		{nil, [2][]int{}, [2]int{-1, -1}},
		{[]request.Request{ask(request.Attach, 3, 1)}, [2][]int{}, [2]int{-1, -1}},
		{[]request.Request{ask(request.Attach, 3, 1), ask(request.Attach, 4, 1)}, [2][]int{}, [2]int{-1, -1}},
		{[]request.Request{ask(request.Attach, 3, 1), ask(request.Attach, 4, 2)}, [2][]int{}, [2]int{-1, 1}},
		{[]request.Request{ask(request.Attach, 3, 2), ask(request.Attach, 4, 1)}, [2][]int{}, [2]int{1, -1}},
		// Of what is committed no release is told: it has no name.
		{[]request.Request{ask(request.Attach, 3, 1), ask(request.Commit, 3)}, [2][]int{}, [2]int{-1, -1}},
		{[]request.Request{ask(request.Attach, 3, 1), ask(request.Commit, 3), ask(request.Attach, 3, 2)}, [2][]int{}, [2]int{1, -1}},
		{[]request.Request{ask(request.Attach, 3, 2), ask(request.Commit, 3), ask(request.Attach, 3, 1)}, [2][]int{{2}, nil}, [2]int{-1, -1}},
		{
			[]request.Request{ask(request.Attach, 3, 2), ask(request.Commit, 3), ask(request.Attach, 3, 1), ask(request.Attach, 4, 2), ask(request.Commit, 4)},
			[2][]int{}, [2]int{-1, 1},
		},
	} {
		b := newBoth()
		b.run(t, dress()...)
		b.run(t, x.l...)
		quiet(t, b.client, ask(request.Unbuffer, 1))
		b.words.do(t, ask(request.Unbuffer, 1))
		b.check(t, i)
		for _, r := range []request.Request{ask(request.Unbuffer, 1), askWrite(1, of(0, 0, 1, 1), blue), ask(request.Attach, 3, 1)} {
			refused(t, b.client, r, api.ErrNone)
		}
		for at, id := range []int{3, 4} {
			told, effects := b.do(t, ask(request.Commit, id))
			if !slices.Equal(told, release(x.free[at]...)) || len(effects) != 1 || effects[0].Buffer != x.has[at] {
				t.Errorf("%d: %d: %v, %+v", i, id, told, effects)
			}
			if (effects[0].State.Content == nil) != (x.has[at] == -1) {
				t.Errorf("%d: %d: %+v", i, id, effects)
			}
		}
		b.show(t, i)
	}
}

// What a surface has committed is shown and held, though its name is gone, and is another one's; the new one has a number, and holds, of its own.
func TestNameGivenAgain(t *testing.T) {
	c := dressed(t)
	quiet(t, c, ask(request.Attach, 3, 1), askOf(request.Damage, 3, all()))
	commit(t, c, 3)
	quiet(t, c, ask(request.Unbuffer, 1))
	held(t, c, 1, 0)
	quiet(t, c, ask(request.Buffer, 1, 2, 2), askWrite(1, of(0, 0, 2, 2), blue))
	held(t, c, 1, 0, 0)
	// The old one is not attached any more, the new one is not yet.
	quiet(t, c, ask(request.Attach, 4, 1), askOf(request.Damage, 4, all()))
	if f := commit(t, c, 4); f.Buffer != 2 || !f.State.Content.Same(filled(t, 2, 2, blue)) {
		t.Errorf("%+v", f)
	}
	held(t, c, 1, 0, 1)
	// The new one is another one than the committed one, though its id is the same.
	quiet(t, c, ask(request.Attach, 3, 1), askOf(request.Damage, 3, of(0, 0, 1, 2)))
	want := filled(t, 2, 2, red)
	want.Fill(of(0, 0, 1, 2), blue)
	if f := commit(t, c, 3); f.Buffer != 2 || !f.State.Content.Same(want) {
		t.Errorf("%+v", f)
	}
	held(t, c, 0, 0, 2)
	if e := c.Hold(0); e != api.ErrNone {
		t.Error(e)
	}
	quiet(t, c, ask(request.Attach, 3, 0), ask(request.Attach, 4, 0))
	commit(t, c, 3)
	commit(t, c, 4, 1)
	held(t, c, 0, 0, 0)
}

// An id that was a buffer's is a surface's then, while the buffer is held; of that no release is told.
func TestIdOfOtherKind(t *testing.T) {
	c := dressed(t)
	quiet(t, c, ask(request.Attach, 3, 1))
	commit(t, c, 3)
	quiet(t, c, ask(request.Unbuffer, 1), ask(request.Surface, 1), ask(request.Attach, 1, 2))
	commit(t, c, 1)
	held(t, c, 1, 1)
	if !slices.Equal(c.Surfaces(), []int{1, 3, 4}) || !slices.Equal(c.Buffers(), []int{2}) {
		t.Error(c.Surfaces(), c.Buffers())
	}
	refused(t, c, ask(request.Attach, 3, 1), api.ErrRole)
	if told, effects := c.Do(ask(request.Unsurface, 3)); len(told) != 0 || len(effects) != 1 {
		t.Error(told, effects)
	}
	held(t, c, 0, 1)
	if told, effects := c.Do(ask(request.Unsurface, 1)); !slices.Equal(told, release(2)) || len(effects) != 1 {
		t.Error(told, effects)
	}
	quiet(t, c, ask(request.Buffer, 1, 1, 1), ask(request.Buffer, 3, 1, 1))
	if !slices.Equal(c.Surfaces(), []int{4}) || !slices.Equal(c.Buffers(), []int{1, 2, 3}) {
		t.Error(c.Surfaces(), c.Buffers())
	}
}

// P15.2

// Hold and Let count beside the surfaces; the last one that lets tells the release, whichever that is.
func TestHoldAndLet(t *testing.T) {
	c := dressed(t)
	quiet(t, c, ask(request.Attach, 3, 2))
	commit(t, c, 3)
	for range 2 {
		if e := c.Hold(1); e != api.OK {
			t.Fatal(e)
		}
	}
	held(t, c, 0, 3)
	if l := c.Let(1); len(l) != 0 {
		t.Error(l)
	}
	quiet(t, c, ask(request.Attach, 3, 0))
	commit(t, c, 3)
	held(t, c, 0, 1)
	refused(t, c, askWrite(2, of(0, 0, 1, 1), blue), api.ErrBusy)
	if l := c.Let(1); !slices.Equal(l, []event.Event{{Kind: 2, Id: 2}}) {
		t.Error(l)
	}
	held(t, c, 0, 0)
	quiet(t, c, askWrite(2, of(0, 0, 1, 1), blue))
	for range 2 {
		if l := c.Let(1); len(l) != 0 {
			t.Error(l)
		}
	}
	// Let first, then by the surface.
	quiet(t, c, ask(request.Attach, 3, 2))
	commit(t, c, 3)
	c.Hold(1)
	if l := c.Let(1); len(l) != 0 {
		t.Error(l)
	}
	quiet(t, c, ask(request.Attach, 3, 1))
	commit(t, c, 3, 2)
	// What no surface ever had may be held, too.
	if e := c.Hold(1); e != api.OK {
		t.Error(e)
	}
	refused(t, c, askWrite(2, of(0, 0, 1, 1), blue), api.ErrBusy)
	if l := c.Let(1); !slices.Equal(l, release(2)) {
		t.Error(l)
	}
}

// What is destroyed while it is held behind a Hold is there until it is let, untold; then it is not to be held.
func TestHoldOfDestroyed(t *testing.T) {
	for _, again := range []bool{false, true} {
		b := newBoth()
		b.run(t, dress()...)
		b.run(t, ask(request.Attach, 3, 1), ask(request.Commit, 3))
		b.hold(t, 0)
		b.run(t, ask(request.Unbuffer, 1))
		if again {
			b.run(t, ask(request.Buffer, 1, 1, 1))
		}
		b.hold(t, 0)
		b.run(t, ask(request.Commit, 3))
		held(t, b.client, 2)
		for range 2 {
			if l := b.let(t, 0); len(l) != 0 {
				t.Error(l)
			}
		}
		held(t, b.client, 0)
		if e := b.hold(t, 0); e != api.ErrNone {
			t.Error(e)
		}
		b.show(t, again)
	}
}

// Let may let what a surface holds: then it is released once, and not again by the surface.
func TestLetOfSurfaces(t *testing.T) {
	for _, last := range []request.Request{ask(request.Unsurface, 3), ask(request.Commit, 3)} {
		b := newBoth()
		b.run(t, dress()...)
		b.run(t, ask(request.Attach, 3, 1), ask(request.Commit, 3))
		if l := b.let(t, 0); !slices.Equal(l, release(1)) {
			t.Error(l)
		}
		// The same one is committed: that is neither held nor let.
		told, effects := b.do(t, ask(request.Commit, 3))
		if len(told) != 0 || len(effects) != 1 || effects[0].Buffer != 0 {
			t.Error(told, effects)
		}
		held(t, b.client, 0)
		b.run(t, askWrite(1, of(0, 0, 1, 1), blue), ask(request.Attach, 3, 0))
		if told, effects := b.do(t, last); len(told) != 0 || len(effects) != 1 {
			t.Error(told, effects)
		}
		held(t, b.client, 0, 0)
		b.show(t, last)
	}
}

// Of numbers that are none nothing is done.
func TestNoNumber(t *testing.T) {
	b := newBoth()
	b.run(t, dress()...)
	b.run(t, ask(request.Attach, 3, 1), ask(request.Commit, 3), ask(request.Buffer, 5, 1, 1), ask(request.Unbuffer, 5))
	for _, n := range append([]int{2, 3, 4, 5}, someNumbers...) {
		if e := b.hold(t, n); e != api.ErrNone {
			t.Error(n, e)
		}
		if l := b.let(t, n); len(l) != 0 {
			t.Error(n, l)
		}
		b.check(t, n)
	}
	b.show(t, "none")
}

// Close tells each surface once, as the ids rise, and no release; behind it all is as of a new one, its numbers too.
func TestClose(t *testing.T) {
	b := newBoth()
	for round := range 3 {
		for i := range 20 {
			id := 1 + (i*7+round)%20
			b.run(t, ask(request.Surface, 1<<20*id))
		}
		b.run(t, ask(request.Buffer, 1, 2, 2), ask(request.Buffer, 2, 2, 2), ask(request.Surface, 3), ask(request.Surface, 4))
		b.run(t, ask(request.Attach, 3, 1), ask(request.Commit, 3), ask(request.Attach, 4, 1), ask(request.Commit, 4), ask(request.Attach, 4, 2))
		b.run(t, ask(request.Unsurface, 1<<20*5), ask(request.Move, 3, 9, 9), ask(request.Raise, 3, 4), ask(request.Frame, 3, 4), askOf(request.Damage, 3, all()))
		b.hold(t, 0)
		b.hold(t, 1)
		b.run(t, ask(request.Unbuffer, 2))
		l := b.close(t)
		if len(l) != 21 || !same(l[0], Effect{Kind: Gone, Id: 3}) || !same(l[1], Effect{Kind: Gone, Id: 4}) || !same(l[6], Effect{Kind: Gone, Id: 1 << 20 * 6}) {
			t.Fatal(l)
		}
		b.check(t, round)
		if l := b.close(t); len(l) != 0 {
			t.Error(l)
		}
		for n := range 3 {
			if e := b.hold(t, n); e != api.ErrNone {
				t.Error(n, e)
			}
			if l := b.let(t, n); len(l) != 0 {
				t.Error(n, l)
			}
		}
		for _, id := range []int{1, 2, 3, 4, 1 << 20} {
			refused(t, b.client, ask(request.Commit, id), api.ErrNone)
			refused(t, b.client, ask(request.Unbuffer, id), api.ErrNone)
		}
		if round == 1 {
			// It has room for 32 again.
			for id := range 32 {
				b.run(t, ask(request.Surface, id+1))
			}
			b.close(t)
		}
		quiet(t, b.client, ask(request.Buffer, 7, 1, 1), ask(request.Surface, 3), ask(request.Attach, 3, 7))
		if f := commit(t, b.client, 3); f.Buffer != 0 || f.State.At != (api.Point{}) || f.Order != 0 || len(f.Frames) != 0 || f.State.Content.Box() != of(0, 0, 1, 1) {
			t.Errorf("%+v", f)
		}
		held(t, b.client, 1, 0)
		b.client.Close()
	}
}

// Of a client without surfaces Close tells nothing, and lets its buffers go.
func TestCloseWithoutSurfaces(t *testing.T) {
	b := newBoth()
	b.run(t, ask(request.Buffer, 1, 1, 1), ask(request.Buffer, 2, 1, 1))
	b.hold(t, 1)
	if l := b.close(t); len(l) != 0 {
		t.Error(l)
	}
	b.check(t, "closed")
	b.run(t, ask(request.Buffer, 1, 1, 1), ask(request.Surface, 2))
	b.check(t, "again")
}

// P15.3

// A buffer is released just when the last hold of it is let, counted apart from the words: by what its surfaces have committed, and by Hold and Let.
func TestReleasedOnce(t *testing.T) {
	c := New()
	quiet(t, c, ask(request.Buffer, 1, 1, 1), ask(request.Buffer, 2, 1, 1))
	for id := 3; id <= 8; id++ {
		quiet(t, c, ask(request.Surface, id))
	}
	d := dice(151)
	attached, committed := [9]int{}, [9]int{} // buffers' ids
	count := [3]int{}
	lets, frees := 0, 0
	let := func(id int, told []event.Event) {
		t.Helper()
		var want []event.Event
		if id > 0 {
			lets++
			if count[id]--; count[id] == 0 {
				want = release(id)
				frees++
			}
		}
		if !slices.Equal(told, want) {
			t.Fatal(id, told, want)
		}
	}
	extra := [3]int{}
	for range 40000 {
		s, n := 3+d.roll(6), 1+d.roll(2)
		switch d.roll(5) {
		case 0:
			attached[s] = d.of(0, 0, 1, 2)
			quiet(t, c, ask(request.Attach, s, attached[s]))
		case 1, 2:
			told, _ := c.Do(ask(request.Commit, s))
			was := committed[s]
			if was == attached[s] {
				was = 0
			} else {
				committed[s] = attached[s]
				count[committed[s]]++
			}
			let(was, told)
		case 3:
			if extra[n] < 3 {
				c.Hold(n - 1)
				extra[n]++
				count[n]++
			}
		case 4:
			if extra[n] > 0 {
				extra[n]--
				let(n, c.Let(n-1))
			}
		}
		held(t, c, count[1], count[2])
		if count[n] > 0 {
			refused(t, c, askWrite(n, of(0, 0, 1, 1), d.color()), api.ErrBusy)
		} else {
			quiet(t, c, askWrite(n, of(0, 0, 1, 1), d.color()))
		}
	}
	if lets < 1000 || frees < 100 || frees > lets/2 {
		t.Error(lets, frees)
	}
}

// Every row of four steps, from several starts.
func TestEveryRow(t *testing.T) {
	do := func(r request.Request) func(both) { return func(b both) { b.do(t, r) } }
	steps := []func(both){
		do(ask(request.Attach, 3, 1)), do(ask(request.Attach, 3, 2)), do(ask(request.Attach, 3, 0)), do(ask(request.Attach, 4, 1)),
		do(ask(request.Commit, 3)), do(ask(request.Commit, 4)),
		do(ask(request.Unbuffer, 1)), do(ask(request.Buffer, 1, 1, 1)),
		do(ask(request.Unsurface, 3)), do(ask(request.Surface, 3)),
		do(askWrite(1, of(0, 0, 1, 1), green)),
		func(b both) { b.hold(t, 0) }, func(b both) { b.let(t, 0) }, func(b both) { b.let(t, 1) },
		func(b both) { b.close(t) },
	}
	starts := [][]request.Request{
		nil,
		{ask(request.Attach, 3, 1), ask(request.Commit, 3), ask(request.Attach, 4, 2), ask(request.Commit, 4)},
		{ask(request.Attach, 3, 1), ask(request.Commit, 3), ask(request.Unbuffer, 1), ask(request.Buffer, 1, 1, 1), ask(request.Attach, 3, 1)},
	}
	const long = 4
	rows := 1
	for range long {
		rows *= len(steps)
	}
	for _, start := range starts {
		for row := range rows {
			b := newBoth()
			b.run(t, ask(request.Buffer, 1, 1, 1), ask(request.Buffer, 2, 1, 1), ask(request.Surface, 3), ask(request.Surface, 4))
			b.run(t, start...)
			for rest, i := row, 0; i < long; rest, i = rest/len(steps), i+1 {
				steps[rest%len(steps)](b)
			}
			b.check(t, row)
			if row%7 == 0 {
				b.show(t, row)
			}
		}
	}
}

// anything does any step.
func anything(t *testing.T, d *dice, b both, most int) {
	t.Helper()
	switch n := len(b.words.buffers) - d.roll(6); d.roll(40) {
	case 0:
		b.hold(t, n)
	case 1, 2:
		b.let(t, n)
	case 3:
		b.check(t, n)
		if d.roll(20) == 0 {
			b.close(t)
		}
	default:
		b.do(t, d.request(most))
	}
}

// Long rows of steps, of few ids, and of more than a client may have.
func TestSteps(t *testing.T) {
	for start := range 60 {
		d := dice(start)
		b := newBoth()
		most := d.of(2, 4, 7, 40)
		for range 700 {
			anything(t, &d, b, most)
		}
		b.show(t, start)
	}
}

// Two clients that are asked the same tell the same, also where one is asked, in between, what is refused.
func TestSame(t *testing.T) {
	d := dice(152)
	for round := range 60 {
		a, b := New(), newBoth()
		most := d.of(3, 6, 40)
		for i := range 300 {
			r := d.request(most)
			told, effects := a.Do(r)
			got, did := b.client.Do(r)
			if !slices.Equal(told, got) || !slices.EqualFunc(effects, did, same) {
				t.Fatal(round, i, r, told, got, effects, did)
			}
			b.words.do(t, r)
			for range 3 {
				if r = d.request(most); b.words.wrong(r) != api.OK {
					b.client.Do(r)
				}
			}
		}
		b.show(t, round)
	}
}

// Of two clients side by side neither changes the other one: each is as its words tell it.
func TestTwoClients(t *testing.T) {
	a, b := newBoth(), newBoth()
	d := dice(153)
	for i := range 6000 {
		p, o := a, b
		if i%3 == 0 {
			p, o = b, a
		}
		anything(t, &d, p, 6)
		if i%50 == 0 {
			p.check(t, i)
			o.check(t, i)
		}
	}
	a.show(t, "a")
	b.show(t, "b")
	// The same ids, one closed.
	x, y := dressed(t), dressed(t)
	for _, c := range []*Client{x, y} {
		quiet(t, c, ask(request.Attach, 3, 1))
		commit(t, c, 3)
	}
	x.Hold(0)
	held(t, y, 1)
	x.Close()
	held(t, x, 0)
	held(t, y, 1, 0)
	refused(t, y, askWrite(1, of(0, 0, 1, 1), blue), api.ErrBusy)
	if f := commit(t, y, 3); f.Buffer != 0 || !f.State.Content.Same(filled(t, 2, 2, 0)) {
		t.Errorf("%+v", f)
	}
}

// R4

// What is told is the asker's own: what becomes of it changes nothing, nor is it changed by what is done then.
func TestToldApart(t *testing.T) {
	b := newBoth()
	b.run(t, dress()...)
	b.run(t, ask(request.Attach, 3, 1), askOf(request.Damage, 3, of(0, 0, 1, 2)), askOf(request.Opaque, 3, all()), ask(request.Frame, 3, 5), ask(request.Frame, 3, 6))
	_, one := b.do(t, ask(request.Commit, 3))
	_, want := b.words.do(t, ask(request.Commit, 3))
	_, two := b.client.Do(ask(request.Commit, 3))
	if !slices.EqualFunc(two, want, same) || two[0].State.Content == one[0].State.Content {
		t.Fatal(two, want)
	}
	was := one[0]
	was.State.Content = was.State.Content.Clone()
	// What was told stays as it is, whatever is done.
	b.run(t, askOf(request.Damage, 3, all()), ask(request.Frame, 3, 9), askOf(request.Opaque, 3, of(0, 0, 1, 1)), ask(request.Commit, 3))
	damage, frames, opaque := []api.Rect{of(0, 0, 2, 2)}, []int{5, 6}, []api.Rect{of(0, 0, 1, 2)}
	if !same(one[0], was) || !slices.Equal(one[0].Damage, damage) || !slices.Equal(one[0].Frames, frames) || !slices.Equal(one[0].State.Opaque, opaque) {
		t.Errorf("%+v", one[0])
	}
	// And what is done to it is done to it alone.
	b.run(t, ask(request.Frame, 3, 1), ask(request.Frame, 3, 2), askOf(request.Opaque, 3, all()))
	for _, f := range []Effect{one[0], two[0]} {
		f.State.Content.Fill(all(), blue)
		spoil(f.Damage, of(7, 7, 9, 9))
		spoil(f.State.Opaque, of(7, 7, 9, 9))
		spoil(f.Frames, 77)
	}
	told, effects := b.do(t, ask(request.Commit, 3))
	spoil(told, event.Event{Kind: 9})
	spoil(effects, Effect{Kind: 9})
	for _, r := range []request.Request{ask(request.Commit, 9), ask(request.Cursor, 3, 1, 1), ask(request.Point, 0, 1, 1)} {
		told, effects = b.do(t, r)
		spoil(told, event.Event{Kind: 9})
		spoil(effects, Effect{Kind: 9})
		b.do(t, r)
	}
	for range 2 {
		b.hold(t, 1)
		told = b.let(t, 1)
		spoil(told, event.Event{Kind: 9})
		spoil(b.client.Surfaces(), 77)
		spoil(b.client.Buffers(), 77)
		b.check(t, "spoiled")
	}
	b.show(t, "spoiled")
}

// spoil lets all of a list, and its spare room, be x.
func spoil[T any](l []T, x T) {
	l = l[:cap(l)]
	for i := range l {
		l[i] = x
	}
}

// Lists that were told ahead stay as they are.
func TestListsAhead(t *testing.T) {
	c := dressed(t)
	surfaces, buffers := c.Surfaces(), c.Buffers()
	quiet(t, c, ask(request.Surface, 5), ask(request.Buffer, 6, 1, 1), ask(request.Unbuffer, 1))
	c.Do(ask(request.Unsurface, 3))
	if !slices.Equal(surfaces, []int{3, 4}) || !slices.Equal(buffers, []int{1, 2}) {
		t.Error(surfaces, buffers)
	}
	gone := c.Close()
	quiet(t, c, ask(request.Surface, 9))
	if len(gone) != 2 || gone[0].Id != 4 || gone[1].Id != 5 {
		t.Error(gone)
	}
	spoil(gone, Effect{Kind: 9})
	if l := c.Close(); len(l) != 1 || !same(l[0], Effect{Kind: Gone, Id: 9}) {
		t.Error(l)
	}
}

// A request's data is not changed, and not kept.
func TestHandedIn(t *testing.T) {
	c := dressed(t)
	room := []byte{255, 1, 2, 3, 9, 9, 9, 9}
	r := request.Request{Op: request.Write, Id: 1, R: of(0, 0, 1, 1), Data: room[:4]}
	quiet(t, c, r)
	if !slices.Equal(room, []byte{255, 1, 2, 3, 9, 9, 9, 9}) {
		t.Error(room)
	}
	clear(room)
	quiet(t, c, ask(request.Attach, 3, 1), askOf(request.Damage, 3, all()))
	f := commit(t, c, 3)
	if color, _ := f.State.Content.At(0, 0); color != 0xff010203 {
		t.Errorf("%x", color)
	}
}

// A state that was told is not changed by what is written to its buffer then, nor by the surface's end.
func TestStateStays(t *testing.T) {
	c := dressed(t)
	quiet(t, c, ask(request.Attach, 3, 1), askOf(request.Damage, 3, all()))
	f := commit(t, c, 3)
	c.Let(0)
	quiet(t, c, askWrite(1, of(0, 0, 2, 2), blue))
	if !f.State.Content.Same(filled(t, 2, 2, red)) {
		t.Error("written to")
	}
	// The surface's own image is not the buffer's, either.
	if f = commit(t, c, 3); !f.State.Content.Same(filled(t, 2, 2, red)) {
		t.Error("shown without damage")
	}
	c.Close()
	if !f.State.Content.Same(filled(t, 2, 2, red)) {
		t.Error("closed")
	}
}

// Nothing but what has to be is kept: of what is gone there is nothing, however much there was.
func TestNothingKept(t *testing.T) {
	c := New()
	for n := range 20000 {
		id := 1 + n
		quiet(t, c, ask(request.Buffer, id, 1, 1), ask(request.Surface, 1<<20+n), ask(request.Attach, 1<<20+n, id))
		if f := commit(t, c, 1<<20+n); f.Buffer != n {
			t.Fatal(n, f.Buffer)
		}
		if n%2 == 0 {
			quiet(t, c, ask(request.Unbuffer, id))
		}
		told, effects := c.Do(ask(request.Unsurface, 1<<20+n))
		if len(effects) != 1 || len(told) != n%2 {
			t.Fatal(n, told, effects)
		}
		if n%2 == 1 {
			quiet(t, c, ask(request.Unbuffer, id))
		}
		if e := c.Hold(n); e != api.ErrNone {
			t.Fatal(n, e)
		}
	}
	if len(c.Buffers()) != 0 || len(c.Surfaces()) != 0 || len(c.windows) != 0 {
		t.Error(c.Buffers(), c.Surfaces(), len(c.windows))
	}
}

// Requests that are none of chapter 9's end; an Op, an Id or sides that may not be are told as an error alone, and change nothing.
func TestNoRequests(t *testing.T) {
	var l []request.Request
	for _, op := range []int{math.MinInt, -1 << 32, -1, 19, 20, 128, 255, 256, 1 << 32, 1<<32 + 3, math.MaxInt} {
		for _, id := range []int{0, 1, 3, 9} {
			l = append(l, ask(op, id, 1, 1))
		}
	}
	for _, id := range []int{math.MinInt, -1<<32 + 3, -1, 0, 1 << 32, 1<<32 + 1, 1<<32 + 3, math.MaxInt} {
		l = append(l, ask(request.Buffer, id, 1, 1), ask(request.Surface, id), ask(request.Unbuffer, id), ask(request.Unsurface, id), ask(request.Commit, id))
		l = append(l, askWrite(id, of(0, 0, 1, 1), red), ask(request.Attach, id, 1), ask(request.Attach, 3, id|1<<40), ask(request.Raise, id, 3), ask(request.Raise, 3, id|1<<40))
		l = append(l, setters(id)...)
	}
	for _, side := range []int{math.MinInt, -1 << 32, -1, 0, 257, 1<<32 + 1, math.MaxInt} {
		l = append(l, ask(request.Buffer, 9, side, 1), ask(request.Buffer, 9, 1, side), ask(request.Buffer, 9, side, side))
	}
	b := refusing(t)
	for _, r := range l {
		told, effects := b.client.Do(r)
		if len(told) != 1 || told[0].Kind != event.Error || told[0].Id != r.Id || told[0].A == 0 || told[0].B != r.Op || len(effects) != 0 {
			t.Fatal(r, told, effects)
		}
		b.check(t, r)
	}
	b.run(t, ask(request.Move, 5, 0, 0))
	b.show(t, "none")
}

// What is set, and may not be, ends, and so do the commits behind it.
func TestOddArguments(t *testing.T) {
	ends := []int{math.MinInt, -1 << 32, -far - 1, -1, 0, 9, 256, far + 1, 1 << 32, math.MaxInt}
	for _, op := range []int{request.Damage, request.Move, request.Scale, request.Clip, request.Opaque, request.Fade, request.Title, request.Frame, request.Cursor, request.Point} {
		for _, a := range ends {
			for _, z := range ends {
				c := dressed(t)
				quiet(t, c, ask(request.Attach, 3, 1), askOf(request.Damage, 3, all()))
				for range 2 {
					c.Do(request.Request{Op: op, Id: 3, A: a, B: z, R: of(a, z, z, a), Text: "\xff\n"})
					c.Do(ask(request.Commit, 3))
				}
				if l := c.Surfaces(); !slices.Equal(l, []int{3, 4}) {
					t.Fatal(l)
				}
			}
		}
	}
}
