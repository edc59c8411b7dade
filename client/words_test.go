package client

import (
	"math"
	"slices"
	"testing"

	"rondel/api"
	"rondel/event"
	"rondel/image"
	"rondel/request"
	"rondel/surface"
)

const far = 1 << 20

// someNumbers are of no buffer, while fewer than 1000 were made; some would be, if they were cut to fewer bytes.
var someNumbers = []int{math.MinInt, -1 << 32, -1<<32 + 1, -256, -2, -1, 1000, 1 << 16, 1 << 32, 1<<32 + 1, math.MaxInt}

// What follows makes requests.

func of(x0, y0, x1, y1 int) api.Rect { return api.Rect{X0: x0, Y0: y0, X1: x1, Y1: y1} }

// all has each point that may be.
func all() api.Rect { return of(-far, -far, far, far) }

// ask is a request of an operation, an id, and A and B as far as they are told.
func ask(op, id int, l ...int) request.Request {
	r := request.Request{Op: op, Id: id}
	if len(l) > 0 {
		r.A = l[0]
	}
	if len(l) > 1 {
		r.B = l[1]
	}
	return r
}

// askOf is a request of an operation on a rectangle.
func askOf(op, id int, r api.Rect) request.Request { return request.Request{Op: op, Id: id, R: r} }

// askWrite is a request to write to r such points as have all one color.
func askWrite(id int, r api.Rect, c api.Color) request.Request {
	var b []byte
	for range (r.X1 - r.X0) * (r.Y1 - r.Y0) {
		b = append(b, byte(c>>24), byte(c>>16), byte(c>>8), byte(c))
	}
	return request.Request{Op: request.Write, Id: id, R: r, Data: b}
}

func askTitle(id int, s string) request.Request {
	return request.Request{Op: request.Title, Id: id, Text: s}
}

// What follows is the words of the chapter.

// buffer is one that ever was.
type buffer struct {
	id    int
	image *image.Image
	named bool
	held  int
}

// look is a surface that is there; of attached and committed -1 is none.
type look struct {
	id                  int
	is                  *surface.Surface
	attached, committed int
	order, over         int
}

// words is what the chapter tells of a client.
type words struct {
	buffers []*buffer // by their numbers
	looks   []*look
}

// named is the number of the buffer that is named so, or -1.
func (w *words) named(id int) int {
	return slices.IndexFunc(w.buffers, func(b *buffer) bool { return b.named && b.id == id })
}

// look is the surface of an id, or nil.
func (w *words) look(id int) *look {
	for _, l := range w.looks {
		if l.id == id {
			return l
		}
	}
	return nil
}

// ids are those of a kind, rising.
func (w *words) ids(kind int) []int {
	var l []int
	if kind == 2 {
		for _, x := range w.looks {
			l = append(l, x.id)
		}
	} else {
		for _, b := range w.buffers {
			if b.named {
				l = append(l, b.id)
			}
		}
	}
	slices.Sort(l)
	return l
}

// find is chapter 11's.
func (w *words) find(id, kind int) api.Errno {
	is := map[int]bool{1: w.named(id) >= 0, 2: w.look(id) != nil}
	switch {
	case is[kind]:
		return api.OK
	case is[3-kind]:
		return api.ErrRole
	}
	return api.ErrNone
}

// wrong is the error of a request, but for that of a commit that may not be.
func (w *words) wrong(r request.Request) api.Errno {
	kind := 2
	switch r.Op {
	case request.Point:
		return api.OK
	case request.Buffer, request.Surface:
		if w.named(r.Id) >= 0 || w.look(r.Id) != nil {
			return api.ErrExist
		}
		if len(w.ids(1))+len(w.ids(2)) == 32 {
			return api.ErrQuota
		}
		return api.OK
	case request.Unbuffer, request.Write:
		kind = 1
	}
	if e := w.find(r.Id, kind); e != api.OK {
		return e
	}
	switch {
	case r.Op == request.Write:
		b := w.buffers[w.named(r.Id)]
		if b.held > 0 {
			return api.ErrBusy
		}
		return b.image.Clone().Write(r.R, r.Data)
	case r.Op == request.Attach && r.A != 0:
		return w.find(r.A, 1)
	case r.Op == request.Raise && r.A != 0:
		if e := w.find(r.A, 2); e != api.OK {
			return e
		}
		if r.A == r.Id {
			return api.ErrArg
		}
	}
	return api.OK
}

// do is what a request is told, and what it effects.
func (w *words) do(t *testing.T, r request.Request) ([]event.Event, []Effect) {
	t.Helper()
	if e := w.wrong(r); e != api.OK {
		return refusal(r, e), nil
	}
	switch r.Op {
	case request.Buffer:
		m, e := image.New(r.A, r.B)
		if e != api.OK {
			t.Fatal(r, e)
		}
		w.buffers = append(w.buffers, &buffer{id: r.Id, image: m, named: true})
	case request.Unbuffer:
		n := w.named(r.Id)
		w.buffers[n].named = false
		for _, l := range w.looks {
			if l.attached == n {
				l.attached = -1
				l.is.Attach(nil)
			}
		}
	case request.Write:
		w.buffers[w.named(r.Id)].image.Write(r.R, r.Data)
	case request.Surface:
		w.looks = append(w.looks, &look{id: r.Id, is: surface.New(), attached: -1, committed: -1})
	case request.Unsurface:
		n := w.look(r.Id).committed
		w.looks = slices.DeleteFunc(w.looks, func(l *look) bool { return l.id == r.Id })
		return w.let(n), []Effect{{Kind: 1, Id: r.Id}}
	case request.Commit:
		return w.commit(r)
	case request.Cursor:
		return nil, []Effect{{Kind: 2, Id: r.Id, X: r.A, Y: r.B}}
	case request.Point:
		return nil, []Effect{{Kind: 3, X: r.A, Y: r.B}}
	default:
		w.set(w.look(r.Id), r)
	}
	return nil, nil
}

// set is what an operation sets of a surface.
func (w *words) set(l *look, r request.Request) {
	switch r.Op {
	case request.Attach:
		l.attached = -1
		l.is.Attach(nil)
		if r.A != 0 {
			l.attached = w.named(r.A)
			l.is.Attach(w.buffers[l.attached].image)
		}
	case request.Damage:
		l.is.Damage(r.R)
	case request.Move:
		l.is.Move(r.A, r.B)
	case request.Raise:
		l.order, l.over = 1, r.A
		if r.A == 0 {
			l.order = 2
		}
	case request.Lower:
		l.order, l.over = 3, 0
	case request.Scale:
		l.is.Scale(r.A)
	case request.Clip:
		l.is.Clip(r.R)
	case request.Opaque:
		l.is.Opaque(r.R)
	case request.Fade:
		l.is.Fade(r.A)
	case request.Title:
		l.is.Title(r.Text)
	case request.Frame:
		l.is.Frame(r.A)
	}
}

func (w *words) commit(r request.Request) ([]event.Event, []Effect) {
	l := w.look(r.Id)
	done, e := l.is.Commit()
	if e != api.OK {
		return refusal(r, e), nil
	}
	f := Effect{
		Id: r.Id, State: l.is.State(), Damage: done.Damage, Frames: done.Frames,
		Buffer: l.attached, Order: l.order, Over: l.over,
	}
	l.order, l.over = 0, 0
	var told []event.Event
	if l.attached != l.committed {
		if l.attached >= 0 {
			w.buffers[l.attached].held++
		}
		told = w.let(l.committed)
		l.committed = l.attached
	}
	return told, []Effect{f}
}

// held is how often a buffer is held, of any number.
func (w *words) held(n int) int {
	if n < 0 || n >= len(w.buffers) {
		return 0
	}
	return w.buffers[n].held
}

func (w *words) hold(n int) api.Errno {
	if n < 0 || n >= len(w.buffers) || !w.buffers[n].named && w.buffers[n].held == 0 {
		return api.ErrNone
	}
	w.buffers[n].held++
	return api.OK
}

func (w *words) let(n int) []event.Event {
	if w.held(n) == 0 {
		return nil
	}
	b := w.buffers[n]
	b.held--
	if b.held > 0 || !b.named {
		return nil
	}
	return release(b.id)
}

func (w *words) close() []Effect {
	var l []Effect
	for _, id := range w.ids(2) {
		l = append(l, Effect{Kind: 1, Id: id})
	}
	*w = words{}
	return l
}

// refusal is what is told of an error.
func refusal(r request.Request, e api.Errno) []event.Event {
	return []event.Event{{Kind: event.Error, Id: r.Id, A: int(e), B: r.Op}}
}

// release is what is told of buffers that are let free.
func release(ids ...int) []event.Event {
	var l []event.Event
	for _, id := range ids {
		l = append(l, event.Event{Kind: event.Release, Id: id})
	}
	return l
}

// same tells whether two effects are.
func same(a, b Effect) bool {
	return a.Kind == b.Kind && a.Id == b.Id && sameState(a.State, b.State) &&
		slices.Equal(a.Damage, b.Damage) && slices.Equal(a.Frames, b.Frames) &&
		a.Buffer == b.Buffer && a.Order == b.Order && a.Over == b.Over && a.X == b.X && a.Y == b.Y
}

func sameState(a, b surface.State) bool {
	if (a.Content == nil) != (b.Content == nil) || a.Content != nil && !a.Content.Same(b.Content) {
		return false
	}
	return a.At == b.At && a.Scale == b.Scale && a.Alpha == b.Alpha && a.Clip == b.Clip &&
		slices.Equal(a.Opaque, b.Opaque) && a.Title == b.Title
}

// What follows is a client and the chapter's words of it, which are asked the same.
type both struct {
	client *Client
	words  *words
}

func newBoth() both { return both{New(), &words{}} }

// do asks both, and looks at all that is told.
func (b both) do(t *testing.T, r request.Request) ([]event.Event, []Effect) {
	t.Helper()
	if _, e := request.Encode(r); e != api.OK {
		t.Fatal("no request:", r, e)
	}
	want, effects := b.words.do(t, r)
	got, did := b.client.Do(r)
	if !slices.Equal(got, want) {
		t.Fatalf("%s: told %v, not %v: %+v", request.Name(r.Op), got, want, r)
	}
	if !slices.EqualFunc(did, effects, same) {
		t.Fatalf("%s: effected %+v, not %+v: %+v", request.Name(r.Op), did, effects, r)
	}
	return got, did
}

// run asks both one behind the other.
func (b both) run(t *testing.T, l ...request.Request) {
	t.Helper()
	for _, r := range l {
		b.do(t, r)
	}
}

func (b both) hold(t *testing.T, n int) api.Errno {
	t.Helper()
	want := b.words.hold(n)
	e := b.client.Hold(n)
	if e != want {
		t.Fatal("hold", n, e, want)
	}
	return e
}

func (b both) let(t *testing.T, n int) []event.Event {
	t.Helper()
	want := b.words.let(n)
	l := b.client.Let(n)
	if !slices.Equal(l, want) {
		t.Fatal("let", n, l, want)
	}
	return l
}

func (b both) close(t *testing.T) []Effect {
	t.Helper()
	want := b.words.close()
	l := b.client.Close()
	if !slices.EqualFunc(l, want, same) {
		t.Fatal("close", l, want)
	}
	return l
}

// check asks all there is to ask without doing anything.
func (b both) check(t *testing.T, where any) {
	t.Helper()
	if l, want := b.client.Surfaces(), b.words.ids(2); !slices.Equal(l, want) {
		t.Fatal(where, "surfaces", l, want)
	}
	if l, want := b.client.Buffers(), b.words.ids(1); !slices.Equal(l, want) {
		t.Fatal(where, "buffers", l, want)
	}
	for n := range len(b.words.buffers) + 2 {
		if held, want := b.client.Held(n), b.words.held(n); held != want {
			t.Fatal(where, "held", n, held, want)
		}
	}
	for _, n := range someNumbers {
		if held := b.client.Held(n); held != 0 {
			t.Fatal(where, "held", n, held)
		}
	}
}

// show lets out what is pending, and what nothing else tells: it commits all, writes to all, and destroys all.
func (b both) show(t *testing.T, where any) {
	t.Helper()
	b.check(t, where)
	for _, id := range b.words.ids(2) {
		b.run(t, ask(request.Commit, id), ask(request.Commit, id))
	}
	b.check(t, where)
	for _, id := range b.words.ids(1) {
		b.do(t, askWrite(id, of(0, 0, 1, 1), 0xff223344))
	}
	for _, id := range b.words.ids(2) {
		b.run(t, askOf(request.Damage, id, all()), ask(request.Commit, id), ask(request.Unsurface, id))
	}
	b.check(t, where)
	for _, id := range b.words.ids(1) {
		b.do(t, ask(request.Unbuffer, id))
	}
	for n := range b.words.buffers {
		for b.words.held(n) > 0 {
			b.let(t, n)
		}
		b.let(t, n)
		b.hold(t, n)
	}
	b.check(t, where)
}

// dice is a row of numbers that is the same each time.
type dice uint64

func (d *dice) roll(n int) int {
	*d = *d*6364136223846793005 + 1442695040888963407
	return int(uint64(*d) >> 33 % uint64(n))
}

func (d *dice) of(l ...int) int { return l[d.roll(len(l))] }

// color is one that may be; of three one is solid.
func (d *dice) color() api.Color {
	a := d.roll(256)
	if d.roll(3) == 0 {
		a = 255
	}
	return api.Color(a<<24 | d.roll(a+1)<<16 | d.roll(a+1)<<8 | d.roll(a+1))
}

// rect is any one near 0 that may be: now and then such as has no points.
func (d *dice) rect(n int) api.Rect {
	x, y := d.roll(n)-n/3, d.roll(n)-n/3
	return of(x, y, x+d.roll(n), y+d.roll(n))
}

// request is any one, of ids from 1 to most.
func (d *dice) request(most int) request.Request {
	id := 1 + d.roll(most)
	switch op := d.roll(request.Ops + 8); op {
	case request.Buffer:
		return ask(op, id, 1+d.roll(4), 1+d.roll(3))
	case request.Write:
		return d.write(id)
	case request.Attach:
		return ask(op, id, d.roll(most+1))
	case request.Move, request.Cursor:
		return ask(op, id, d.of(d.roll(9)-4, d.roll(9)-4, far-d.roll(9), -far), d.of(d.roll(9)-4, d.roll(9)-4, far))
	case request.Raise:
		return ask(op, id, d.roll(most+1))
	case request.Scale:
		return ask(op, id, 1+d.roll(8))
	case request.Damage, request.Clip, request.Opaque:
		return askOf(op, id, d.rect(6))
	case request.Fade:
		return ask(op, id, d.of(0, 255, d.roll(256)))
	case request.Title:
		return askTitle(id, []string{"", "tea", "日本", "a b"}[d.roll(4)])
	case request.Frame:
		return ask(op, id, d.of(d.roll(5), 1<<32-1))
	case request.Point:
		return ask(op, 0, d.of(d.roll(9)-4, -far), d.of(d.roll(9)-4, far))
	case request.Unbuffer, request.Surface, request.Unsurface, request.Lower, request.Commit:
		return ask(op, id)
	default:
		// What holds and lets comes oftener than the others.
		return []request.Request{
			ask(request.Commit, id), ask(request.Commit, id), ask(request.Attach, id, 1+d.roll(most)), ask(request.Attach, id, 1+d.roll(most)),
			ask(request.Surface, id), ask(request.Buffer, id, 1+d.roll(3), 1+d.roll(3)), askOf(request.Damage, id, d.rect(6)), d.write(id),
		}[op-request.Ops]
	}
}

// write is a request to write, whose bytes are right for the most part.
func (d *dice) write(id int) request.Request {
	x, y := d.roll(3)-d.roll(12)/11, d.roll(2)
	r := askWrite(id, of(x, y, x+1+d.roll(2), y+1+d.roll(2)), d.color())
	switch d.roll(10) {
	case 0:
		r.Data = r.Data[:d.roll(len(r.Data))]
	case 1:
		r.Data = append(r.Data, make([]byte, 1+d.roll(5))...)
	case 2:
		r.Data[0], r.Data[1] = 1, 2
	}
	return r
}
