package pool

import (
	"bytes"
	"math"
	"slices"
	"testing"

	"rondel/api"
	"rondel/image"
)

// someIds may all be: any number may. Some would be one, if they were cut to fewer bytes.
var someIds = []int{math.MinInt, math.MinInt + 1, -1 << 32, -1 << 31, -256, -2, -1, 0, 1, 2, 5, 255, 256, 257, 65536, 1<<31 - 1, 1 << 31, 1<<32 - 1, 1 << 32, 1<<32 + 1, 1<<32 + 5, math.MaxInt - 1, math.MaxInt}

// noNumbers are of no buffer, while fewer than 1000 were made; some would be, if they were cut to fewer bytes.
var noNumbers = []int{math.MinInt, math.MinInt + 1, -1 << 32, -1<<32 + 1, -256, -255, -2, -1, 1000, 1 << 16, 1<<16 + 1, 1 << 32, 1<<32 + 1, 1<<32 + 2, math.MaxInt - 1, math.MaxInt}

// noSides may not be.
var noSides = []int{math.MinInt, -1 << 32, -1<<32 + 1, -256, -255, -2, -1, 0, 257, 258, 511, 512, 513, 1 << 16, 1<<16 + 1, 1 << 32, 1<<32 + 1, math.MaxInt}

// one is a buffer, as the chapter's words tell it.
type one struct {
	id, w, h int
	bytes    []byte // of all its points
	named    bool
	held     int
	image    *image.Image // the one that was told first
}

// there tells whether it is there.
func (o *one) there() bool { return o.named || o.held > 0 }

// write is what chapter 4 tells of it.
func (o *one) write(r api.Rect, b []byte) api.Errno {
	if r.X0 < 0 || r.Y0 < 0 || r.X1 > o.w || r.Y1 > o.h || r.X0 >= r.X1 || r.Y0 >= r.Y1 {
		return api.ErrRange
	}
	row := 4 * (r.X1 - r.X0)
	if n := row * (r.Y1 - r.Y0); len(b) < n {
		return api.ErrShort
	} else if len(b) > n {
		return api.ErrForm
	}
	for i := 0; i < len(b); i += 4 {
		if max(b[i+1], b[i+2], b[i+3]) > b[i] {
			return api.ErrArg
		}
	}
	for y := r.Y0; y < r.Y1; y++ {
		for i := range row {
			o.bytes[4*(y*o.w+r.X0)+i] = b[row*(y-r.Y0)+i]
		}
	}
	return api.OK
}

// words is what the chapter tells of a pool: all buffers that ever were, by their numbers.
type words struct{ all []*one }

// named is the number of the one that is named so, or -1.
func (w *words) named(id int) int {
	for n, o := range w.all {
		if o.named && o.id == id {
			return n
		}
	}
	return -1
}

// at is the buffer of a number, or nil, if it is not there.
func (w *words) at(n int) *one {
	if n < 0 || n >= len(w.all) || !w.all[n].there() {
		return nil
	}
	return w.all[n]
}

// there is the numbers of those that are there.
func (w *words) there() []int {
	var l []int
	for n, o := range w.all {
		if o.there() {
			l = append(l, n)
		}
	}
	return l
}

// both are a pool and the chapter's words of it, which are told the same.
type both struct {
	pool  *Pool
	words *words
}

func newBoth() both { return both{New(), &words{}} }

func (b both) make(t *testing.T, id, w, h int) (int, api.Errno) {
	t.Helper()
	want, wantErr := -1, api.OK
	switch {
	case b.words.named(id) >= 0:
		wantErr = api.ErrExist
	case w < 1 || w > 256 || h < 1 || h > 256:
		wantErr = api.ErrArg
	default:
		want = len(b.words.all)
		b.words.all = append(b.words.all, &one{id: id, w: w, h: h, bytes: make([]byte, 4*w*h), named: true})
	}
	n, err := b.pool.Make(id, w, h)
	if n != want || err != wantErr {
		t.Fatal("make", id, w, h, n, err, want, wantErr)
	}
	return n, err
}

func (b both) find(t *testing.T, id int) {
	t.Helper()
	want, wantErr := b.words.named(id), api.OK
	if want < 0 {
		wantErr = api.ErrNone
	}
	if n, err := b.pool.Find(id); n != want || err != wantErr {
		t.Fatal("find", id, n, err, want, wantErr)
	}
}

func (b both) write(t *testing.T, id int, r api.Rect, l []byte) api.Errno {
	t.Helper()
	var want api.Errno
	if n := b.words.named(id); n < 0 {
		want = api.ErrNone
	} else if b.words.all[n].held > 0 {
		want = api.ErrBusy
	} else {
		want = b.words.all[n].write(r, l)
	}
	was := slices.Clone(l)
	err := b.pool.Write(id, r, l)
	if err != want {
		t.Fatal("write", id, r, len(l), err, want)
	}
	if !bytes.Equal(l, was) {
		t.Fatal("write changed the bytes", id, r)
	}
	return err
}

func (b both) destroy(t *testing.T, id int) api.Errno {
	t.Helper()
	want := api.OK
	if n := b.words.named(id); n < 0 {
		want = api.ErrNone
	} else {
		b.words.all[n].named = false
	}
	err := b.pool.Destroy(id)
	if err != want {
		t.Fatal("destroy", id, err, want)
	}
	return err
}

func (b both) hold(t *testing.T, n int) api.Errno {
	t.Helper()
	want := api.OK
	if o := b.words.at(n); o == nil {
		want = api.ErrNone
	} else {
		o.held++
	}
	err := b.pool.Hold(n)
	if err != want {
		t.Fatal("hold", n, err, want)
	}
	return err
}

func (b both) let(t *testing.T, n int) (int, bool) {
	t.Helper()
	want, wantFree := 0, false
	if o := b.words.at(n); o != nil && o.held > 0 {
		o.held--
		want, wantFree = o.id, o.named && o.held == 0
	}
	id, free := b.pool.Let(n)
	if id != want || free != wantFree {
		t.Fatal("let", n, id, free, want, wantFree)
	}
	return id, free
}

// light asks of the numbers alone that are, or were.
func (b both) light(t *testing.T, where any) {
	t.Helper()
	if l := b.pool.There(); !slices.Equal(l, b.words.there()) {
		t.Fatal(where, "there", l, b.words.there())
	}
	for n := range b.words.all {
		b.number(t, where, n)
	}
}

// number asks all there is to ask of a number.
func (b both) number(t *testing.T, where any, n int) {
	t.Helper()
	o := b.words.at(n)
	m, ok := b.pool.Image(n)
	held := b.pool.Held(n)
	if o == nil {
		if m != nil || ok || held != 0 {
			t.Fatal(where, "not there", n, m, ok, held)
		}
		return
	}
	if m == nil || !ok || held != o.held {
		t.Fatal(where, "there", n, m, ok, held, o.held)
	}
	if o.image == nil {
		o.image = m
	}
	if m != o.image {
		t.Fatal(where, "another image", n)
	}
	if m.Box() != (api.Rect{X1: o.w, Y1: o.h}) {
		t.Fatal(where, "box", n, m.Box(), o.w, o.h)
	}
	if l, err := m.Read(m.Box()); err != api.OK || !bytes.Equal(l, o.bytes) {
		t.Fatal(where, "bytes", n, err)
	}
}

// check asks a pool all there is to ask.
func (b both) check(t *testing.T, where any, ids ...int) {
	t.Helper()
	b.light(t, where)
	for _, n := range append([]int{len(b.words.all), len(b.words.all) + 1}, noNumbers...) {
		b.number(t, where, n)
	}
	for _, id := range slices.Concat(ids, someIds) {
		b.find(t, id)
	}
	for _, o := range b.words.all {
		b.find(t, o.id)
	}
}

// step is a row of numbers, the same for the same start.
type step struct{ now uint64 }

func (s *step) next(n int) int {
	s.now = s.now*6364136223846793005 + 1442695040888963407
	return int(s.now >> 33 % uint64(n))
}

// dot is the first point of any image.
var dot = api.Rect{X1: 1, Y1: 1}

// rect is the rectangle of four numbers.
func rect(x0, y0, x1, y1 int) api.Rect { return api.Rect{X0: x0, Y0: y0, X1: x1, Y1: y1} }

// gray is the bytes of n points of a color each of whose parts is p.
func gray(n int, p byte) []byte { return bytes.Repeat([]byte{p}, 4*n) }

// The chapter's own example, and what stands round it.
func TestExample(t *testing.T) {
	p := New()
	if n, err := p.Make(5, 2, 2); n != 0 || err != api.OK {
		t.Fatal("make", n, err)
	}
	if err := p.Write(5, dot, []byte{255, 1, 2, 3}); err != api.OK {
		t.Error("write", err)
	}
	if err := p.Hold(0); err != api.OK {
		t.Error("hold", err)
	}
	if err := p.Write(5, dot, []byte{255, 7, 7, 7}); err != api.ErrBusy {
		t.Error("write of what is held", err)
	}
	if id, free := p.Let(0); id != 5 || !free {
		t.Error("let", id, free)
	}
	if id, free := p.Let(0); id != 0 || free {
		t.Error("let once more", id, free)
	}
	if m, ok := p.Image(0); !ok {
		t.Error("image")
	} else if c, _ := m.At(0, 0); c != 0xff010203 {
		t.Errorf("color %x", c)
	}
	if n, err := p.Make(6, 1, 1); n != 1 || err != api.OK {
		t.Error("make of another", n, err)
	}
	if n, err := p.Find(6); n != 1 || err != api.OK {
		t.Error("find", n, err)
	}
	if !slices.Equal(p.There(), []int{0, 1}) {
		t.Error("there", p.There())
	}
	if err := p.Destroy(5); err != api.OK {
		t.Error("destroy", err)
	}
	if n, err := p.Find(5); n != -1 || err != api.ErrNone {
		t.Error("find of what is destroyed", n, err)
	}
	if !slices.Equal(p.There(), []int{1}) {
		t.Error("there", p.There())
	}
}

// P12.1

// A new pool has nothing, and nothing comes of what is asked of it.
func TestNewIsEmpty(t *testing.T) {
	b := newBoth()
	if l := b.pool.There(); len(l) != 0 {
		t.Fatal(l)
	}
	for range 2 {
		b.check(t, "new", 3, 4)
		for _, id := range someIds {
			if b.write(t, id, dot, gray(1, 9)) != api.ErrNone || b.destroy(t, id) != api.ErrNone {
				t.Error("id", id)
			}
		}
		for _, n := range append([]int{0, 1, 2, 5}, noNumbers...) {
			if b.hold(t, n) != api.ErrNone {
				t.Error("hold", n)
			}
			if id, free := b.let(t, n); id != 0 || free {
				t.Error("let", n, id, free)
			}
		}
	}
	// Nor was a number used up, or kept for a buffer that comes.
	if n, err := b.make(t, 5, 1, 1); n != 0 || err != api.OK {
		t.Error("make", n, err)
	}
	b.check(t, "made")
}

// Sides from 1 to 256 may be; each buffer's image is as big as was asked for, and all 0.
func TestSides(t *testing.T) {
	b := newBoth()
	id := 0
	for _, w := range []int{1, 2, 3, 100, 255, 256} {
		for _, h := range []int{1, 2, 3, 100, 255, 256} {
			if n, err := b.make(t, id, w, h); n != id || err != api.OK {
				t.Fatal(w, h, n, err)
			}
			if m, ok := b.pool.Image(id); !ok || m.Box() != (api.Rect{X1: w, Y1: h}) {
				t.Fatal(w, h, m, ok)
			}
			id++
		}
	}
	b.check(t, "sides")
}

// A side that may not be is refused: nothing is named so then, and no number is used up.
func TestNoSides(t *testing.T) {
	b := newBoth()
	for at, side := range noSides {
		for _, other := range []int{1, 2, 256, 0, -1, 257, side} {
			for _, c := range [][2]int{{side, other}, {other, side}} {
				if n, err := b.make(t, 7, c[0], c[1]); n != -1 || err != api.ErrArg {
					t.Fatal(c, n, err)
				}
				b.find(t, 7)
			}
		}
		if n, err := b.make(t, 100+at, 1, 1); n != at || err != api.OK {
			t.Fatal(side, n, err)
		}
	}
	b.check(t, "no sides", 7)
}

// An id that is there is refused, whatever its buffer's sides, or those that are asked for: ErrExist is told first.
func TestExist(t *testing.T) {
	b := newBoth()
	b.make(t, 5, 2, 3)
	b.write(t, 5, rect(0, 0, 2, 3), gray(6, 44))
	for _, sides := range [][2]int{{2, 3}, {1, 1}, {256, 256}, {0, 1}, {1, 257}, {-1, -1}, {math.MinInt, math.MaxInt}} {
		if n, err := b.make(t, 5, sides[0], sides[1]); n != -1 || err != api.ErrExist {
			t.Fatal(sides, n, err)
		}
		b.check(t, sides)
	}
	b.hold(t, 0)
	if n, err := b.make(t, 5, 1, 1); n != -1 || err != api.ErrExist {
		t.Fatal("held", n, err)
	}
	// No number was used up.
	if n, err := b.make(t, 6, 1, 1); n != 1 || err != api.OK {
		t.Fatal(n, err)
	}
	b.check(t, "exist")
}

// Any number is an id, and each is its own.
func TestAnyId(t *testing.T) {
	b := newBoth()
	for n, id := range someIds {
		b.find(t, id)
		if made, err := b.make(t, id, 1+n%3, 1); made != n || err != api.OK {
			t.Fatal(id, made, err)
		}
		if err := b.write(t, id, dot, gray(1, byte(n+1))); err != api.OK {
			t.Fatal(id, err)
		}
		b.check(t, id)
	}
	for n, id := range someIds {
		b.hold(t, n)
		b.hold(t, n)
		if got, free := b.let(t, n); got != id || free {
			t.Fatal("let", id, got, free)
		}
		if got, free := b.let(t, n); got != id || !free {
			t.Fatal("let free", id, got, free)
		}
		if err := b.destroy(t, id); err != api.OK {
			t.Fatal(id, err)
		}
		b.check(t, id)
	}
}

// Buffers have the numbers 0, 1, .. as they were made; none comes twice, whatever is gone.
func TestNumbers(t *testing.T) {
	b := newBoth()
	for n := range 300 {
		id := 9000 - n*7%300
		if n%3 == 2 {
			id = 5
		}
		if made, err := b.make(t, id, 1, 1); made != n || err != api.OK {
			t.Fatal(n, made, err)
		}
		switch n % 6 {
		case 0:
			b.destroy(t, id)
		case 2:
			b.hold(t, n)
			b.destroy(t, 5)
		case 5:
			b.destroy(t, 5)
		}
		// Refused ones have no number.
		b.make(t, 6, 0, 1)
		if n%6 == 1 {
			b.make(t, id, 1, 1)
		}
		b.light(t, n)
	}
	b.check(t, "numbers")
	// All are gone, and the next one's number is a new one still.
	for n, o := range b.words.all {
		if o.named {
			b.destroy(t, o.id)
		}
		for o.held > 0 {
			b.let(t, n)
		}
	}
	if l := b.pool.There(); len(l) != 0 {
		t.Fatal(l)
	}
	if n, err := b.make(t, 5, 1, 1); n != 300 || err != api.OK {
		t.Fatal(n, err)
	}
	b.check(t, "all gone")
}

// What is refused by the image's own rules is told so, and changes nothing.
func TestWriteRefused(t *testing.T) {
	b := newBoth()
	b.make(t, 5, 3, 2)
	b.make(t, 6, 3, 2)
	b.write(t, 5, rect(0, 0, 3, 2), gray(6, 100))
	for i, c := range []struct {
		r    api.Rect
		b    []byte
		want api.Errno
	}{
		{rect(0, 0, 4, 2), gray(8, 1), api.ErrRange},
		{rect(0, 0, 3, 3), gray(9, 1), api.ErrRange},
		{rect(-1, 0, 3, 2), gray(8, 1), api.ErrRange},
		{rect(0, -1, 3, 2), gray(9, 1), api.ErrRange},
		{rect(1, 1, 1, 2), nil, api.ErrRange},
		{rect(2, 0, 1, 2), gray(2, 1), api.ErrRange},
		{api.Rect{}, nil, api.ErrRange},
		{rect(math.MinInt, math.MinInt, math.MaxInt, math.MaxInt), gray(6, 1), api.ErrRange},
		{rect(0, 0, 3, 2), nil, api.ErrShort},
		{rect(0, 0, 3, 2), gray(6, 1)[:23], api.ErrShort},
		{rect(0, 0, 3, 2), append(gray(6, 1), 1), api.ErrForm},
		{dot, gray(2, 1), api.ErrForm},
		{dot, []byte{1, 2, 0, 0}, api.ErrArg},
		{rect(0, 0, 3, 2), append(gray(5, 1), 254, 0, 0, 255), api.ErrArg},
		{rect(0, 0, 4, 2), []byte{1, 2, 0}, api.ErrRange},
		{rect(0, 0, 3, 2), []byte{1, 2, 0}, api.ErrShort},
	} {
		if err := b.write(t, 5, c.r, c.b); err != c.want {
			t.Error(i, err, c.want)
		}
		b.check(t, i)
		// Of what is held ErrBusy stands ahead of the image's rules, of what is not there ErrNone ahead of both.
		b.hold(t, 1)
		if err := b.write(t, 6, c.r, c.b); err != api.ErrBusy {
			t.Error(i, err)
		}
		b.let(t, 1)
		if err := b.write(t, 7, c.r, c.b); err != api.ErrNone {
			t.Error(i, err)
		}
		b.check(t, i)
	}
}

// What is written is told by the image, there alone, and by no other buffer's.
func TestWrite(t *testing.T) {
	b := newBoth()
	s := step{1}
	for id := range 4 {
		b.make(t, id, 5, 4)
	}
	for i := range 300 {
		r := rect(s.next(5), s.next(4), s.next(6), s.next(5))
		l := gray(max(r.X1-r.X0, 0)*max(r.Y1-r.Y0, 0), byte(s.next(256)))
		b.write(t, s.next(4), r, l)
		b.light(t, i)
		// The bytes are the asker's own: what becomes of them later changes nothing.
		for at := range l {
			l[at] ^= 255
		}
		b.light(t, i)
	}
	b.write(t, 2, rect(1, 1, 3, 2), []byte{255, 1, 2, 3, 4, 4, 3, 2})
	m, _ := b.pool.Image(2)
	if c, _ := m.At(1, 1); c != 0xff010203 {
		t.Errorf("%x", c)
	}
	if c, _ := m.At(2, 1); c != 0x04040302 {
		t.Errorf("%x", c)
	}
	b.check(t, "written")
}

// A whole image of the greatest sides is written at once, though no message has as many bytes.
func TestWriteOfAll(t *testing.T) {
	b := newBoth()
	b.make(t, 5, 256, 256)
	l := make([]byte, 4*256*256)
	for i := range l {
		l[i] = 255
		if i%4 > 0 {
			l[i] = byte(i * 7 >> 5)
		}
	}
	if err := b.write(t, 5, rect(0, 0, 256, 256), l); err != api.OK {
		t.Fatal(err)
	}
	b.light(t, "all")
}

// What is held, however often, is not written to; what is let by all is, also when it is let once more than it was held.
func TestWriteOfHeld(t *testing.T) {
	for holds := 1; holds <= 5; holds++ {
		b := newBoth()
		b.make(t, 5, 2, 2)
		b.make(t, 6, 2, 2)
		for round := range 3 {
			if err := b.write(t, 5, rect(0, 0, 2, 2), gray(4, byte(10*round+1))); err != api.OK {
				t.Fatal(holds, round, err)
			}
			for range holds {
				b.hold(t, 0)
				if err := b.write(t, 5, dot, gray(1, 200)); err != api.ErrBusy {
					t.Fatal(holds, round, err)
				}
			}
			for range holds {
				if err := b.write(t, 5, dot, gray(1, 200)); err != api.ErrBusy {
					t.Fatal(holds, round, err)
				}
				// Another one's holds are not this one's.
				if err := b.write(t, 6, dot, gray(1, byte(round))); err != api.OK {
					t.Fatal(holds, round, err)
				}
				b.check(t, holds)
				b.let(t, 0)
			}
			b.let(t, 0)
			if err := b.write(t, 5, dot, gray(1, byte(10*round+2))); err != api.OK {
				t.Fatal(holds, round, err)
			}
			b.check(t, holds)
		}
	}
}

// A buffer that is held by none is gone when it is destroyed.
func TestDestroy(t *testing.T) {
	for _, was := range []int{0, 1, 3} {
		b := newBoth()
		b.make(t, 4, 1, 1)
		b.make(t, 5, 2, 2)
		b.make(t, 6, 1, 1)
		// Whether it ever was held changes nothing.
		for range was {
			b.hold(t, 1)
		}
		for range was {
			b.let(t, 1)
		}
		if err := b.destroy(t, 5); err != api.OK {
			t.Fatal(was, err)
		}
		b.check(t, was)
		if !slices.Equal(b.pool.There(), []int{0, 2}) {
			t.Fatal(was, b.pool.There())
		}
		for range 2 {
			if err := b.destroy(t, 5); err != api.ErrNone {
				t.Fatal(was, err)
			}
			if err := b.hold(t, 1); err != api.ErrNone {
				t.Fatal(was, err)
			}
			if id, free := b.let(t, 1); id != 0 || free {
				t.Fatal(was, id, free)
			}
			if err := b.write(t, 5, dot, gray(1, 1)); err != api.ErrNone {
				t.Fatal(was, err)
			}
			b.check(t, was)
		}
	}
}

// P12.2

// A buffer that is held and destroyed is there, until its last hold is let, and goes untold then.
func TestDestroyOfHeld(t *testing.T) {
	for holds := 1; holds <= 4; holds++ {
		b := newBoth()
		b.make(t, 5, 2, 1)
		b.write(t, 5, rect(0, 0, 2, 1), gray(2, 77))
		for range holds {
			b.hold(t, 0)
		}
		if err := b.destroy(t, 5); err != api.OK {
			t.Fatal(holds, err)
		}
		b.check(t, holds)
		if b.destroy(t, 5) != api.ErrNone || b.write(t, 5, dot, gray(1, 1)) != api.ErrNone {
			t.Fatal(holds)
		}
		// What is there may be held once more, though nothing names it.
		if err := b.hold(t, 0); err != api.OK {
			t.Fatal(holds, err)
		}
		for left := holds; left >= 0; left-- {
			if b.pool.Held(0) != left+1 || !slices.Equal(b.pool.There(), []int{0}) {
				t.Fatal(holds, left, b.pool.Held(0), b.pool.There())
			}
			b.check(t, holds)
			if id, free := b.let(t, 0); id != 5 || free {
				t.Fatal(holds, left, id, free)
			}
		}
		b.check(t, holds)
		if len(b.pool.There()) != 0 || b.hold(t, 0) != api.ErrNone {
			t.Fatal(holds, b.pool.There())
		}
		if id, free := b.let(t, 0); id != 0 || free {
			t.Fatal(holds, id, free)
		}
		b.check(t, holds)
	}
}

// A name is given again while the old buffer is held; both are let, in either order.
func TestNameGivenAgain(t *testing.T) {
	for _, first := range []int{0, 1} {
		for _, id := range []int{5, 0, -1, math.MinInt} {
			b := newBoth()
			b.make(t, id, 2, 2)
			b.write(t, id, dot, gray(1, 11))
			b.hold(t, 0)
			b.destroy(t, id)
			if n, err := b.make(t, id, 3, 1); n != 1 || err != api.OK {
				t.Fatal(n, err)
			}
			// The name is the new one's alone: it is written to, and the old one is not.
			if err := b.write(t, id, rect(0, 0, 3, 1), gray(3, 22)); err != api.OK {
				t.Fatal(err)
			}
			if n, err := b.make(t, id, 1, 1); n != -1 || err != api.ErrExist {
				t.Fatal(n, err)
			}
			b.check(t, first)
			b.hold(t, 1)
			if err := b.write(t, id, dot, gray(1, 33)); err != api.ErrBusy {
				t.Fatal(err)
			}
			for _, n := range []int{first, 1 - first} {
				if got, free := b.let(t, n); got != id || free != (n == 1) {
					t.Fatal(first, n, got, free)
				}
				b.check(t, first)
			}
			if !slices.Equal(b.pool.There(), []int{1}) {
				t.Fatal(b.pool.There())
			}
			if err := b.destroy(t, id); err != api.OK {
				t.Fatal(err)
			}
			b.check(t, first)
		}
	}
}

// Many buffers had one name; each that is held is there, and has its own image, and only the last one is told free.
func TestOneNameOften(t *testing.T) {
	b := newBoth()
	const many = 40
	for n := range many {
		b.make(t, 5, n%4+1, n%3+1)
		b.write(t, 5, dot, gray(1, byte(n+1)))
		b.hold(t, n)
		if n < many-1 {
			b.destroy(t, 5)
		}
		b.light(t, n)
	}
	b.check(t, "often")
	for i := range many {
		n := i * 7 % many
		if id, free := b.let(t, n); id != 5 || free != (n == many-1) {
			t.Fatal(n, id, free)
		}
		b.light(t, n)
	}
	if !slices.Equal(b.pool.There(), []int{many - 1}) {
		t.Fatal(b.pool.There())
	}
	b.check(t, "let")
}

// As many holds as lets, and one more let, that does nothing; the last one alone tells that the buffer is free.
func TestHoldsAndLets(t *testing.T) {
	b := newBoth()
	b.make(t, 9, 1, 1)
	b.make(t, 5, 1, 1)
	for _, holds := range []int{1, 2, 3, 255, 256, 257, 70000} {
		for i := range holds {
			if err := b.hold(t, 1); err != api.OK || b.pool.Held(1) != i+1 {
				t.Fatal(holds, i, err, b.pool.Held(1))
			}
		}
		b.check(t, holds)
		for left := holds - 1; left >= 0; left-- {
			if id, free := b.let(t, 1); id != 5 || free != (left == 0) || b.pool.Held(1) != left {
				t.Fatal(holds, left, id, free, b.pool.Held(1))
			}
		}
		for range 3 {
			if id, free := b.let(t, 1); id != 0 || free {
				t.Fatal(holds, id, free)
			}
			b.check(t, holds)
		}
	}
}

// Of numbers that are none nothing is done, and nothing comes of it.
func TestNoNumber(t *testing.T) {
	b := newBoth()
	for id := range 3 {
		b.make(t, id, 1, 1)
	}
	b.hold(t, 0)
	b.hold(t, 1)
	b.destroy(t, 2)
	for _, n := range append([]int{2, 3, 4, 5}, noNumbers...) {
		if err := b.hold(t, n); err != api.ErrNone {
			t.Error("hold", n, err)
		}
		if id, free := b.let(t, n); id != 0 || free {
			t.Error("let", n, id, free)
		}
		b.check(t, n)
	}
	// What is made now is held by none.
	if n, err := b.make(t, 8, 1, 1); n != 3 || err != api.OK || b.pool.Held(3) != 0 {
		t.Error(n, err, b.pool.Held(3))
	}
	b.check(t, "made")
}

// A number is no id, and an id no number.
func TestNumberIsNoId(t *testing.T) {
	b := newBoth()
	for n := range 5 {
		b.make(t, 4-n, n+1, 1)
	}
	b.hold(t, 4)
	if err := b.write(t, 4, dot, gray(1, 8)); err != api.OK {
		t.Error(err)
	}
	if err := b.write(t, 0, dot, gray(1, 8)); err != api.ErrBusy {
		t.Error(err)
	}
	if id, free := b.let(t, 4); id != 0 || !free {
		t.Error(id, free)
	}
	b.destroy(t, 3)
	b.check(t, "one of both")
	if !slices.Equal(b.pool.There(), []int{0, 2, 3, 4}) {
		t.Error(b.pool.There())
	}
}

// A buffer's image is the same one always: what is done to it is told by the pool, while it is named and when it is not.
func TestImageIsTheSame(t *testing.T) {
	b := newBoth()
	b.make(t, 5, 3, 3)
	m, ok := b.pool.Image(0)
	if !ok {
		t.Fatal("image")
	}
	if err := m.Set(2, 2, 0xff00ff00); err != api.OK {
		t.Fatal(err)
	}
	copy(b.words.all[0].bytes[4*8:], []byte{255, 0, 255, 0})
	b.check(t, "set")
	b.hold(t, 0)
	b.destroy(t, 5)
	b.make(t, 5, 3, 3)
	again, ok := b.pool.Image(0)
	if !ok || again != m {
		t.Fatal("held, and not named", ok)
	}
	other, ok := b.pool.Image(1)
	if !ok || other == m {
		t.Fatal("the new one", ok)
	}
	other.Set(0, 0, 0xffffffff)
	copy(b.words.all[1].bytes, gray(1, 255))
	b.check(t, "both")
	b.let(t, 0)
	b.destroy(t, 5)
	b.make(t, 5, 3, 3)
	b.check(t, "gone")
	// Who has the image of a buffer that is gone has it still, as it was.
	if c, _ := m.At(2, 2); c != 0xff00ff00 {
		t.Errorf("%x", c)
	}
	if c, _ := other.At(0, 0); c != 0xffffffff {
		t.Errorf("%x", c)
	}
}

// Numbers rise as numbers, whatever is gone of them, and whichever came last.
func TestThereRises(t *testing.T) {
	b := newBoth()
	for n := range 130 {
		b.make(t, 1000-n, 1, 1)
	}
	for i := range 130 {
		n := i * 37 % 130
		switch i % 4 {
		case 0:
			b.destroy(t, 1000-n)
		case 1:
			b.hold(t, n)
		case 2:
			b.hold(t, n)
			b.destroy(t, 1000-n)
		}
		b.light(t, i)
		if i%4 == 2 && i%8 == 2 {
			b.let(t, n)
			b.light(t, i)
		}
	}
	first := b.pool.There()
	if !slices.IsSorted(first) || len(first) != len(slices.Compact(slices.Clone(first))) {
		t.Fatal(first)
	}
	for range 300 {
		if l := b.pool.There(); !slices.Equal(l, first) {
			t.Fatal(l, first)
		}
	}
}

// A list that was told is the asker's own.
func TestListsApart(t *testing.T) {
	b := newBoth()
	for n := range 11 {
		b.make(t, n, 1, 1)
	}
	first, second := b.pool.There(), b.pool.There()
	all := first[:cap(first)]
	for i := range all {
		all[i] = -7
	}
	_ = append(second[:2], 50, 51, 52)
	b.check(t, "changed", -7, 50)
	third := b.pool.There()
	b.destroy(t, 3)
	b.make(t, 99, 1, 1)
	if !slices.Equal(third, []int{0, 1, 2, 3, 4, 5, 6, 7, 8, 9, 10}) {
		t.Error("told", third)
	}
	b.check(t, "more")
}

// To ask changes nothing.
func TestAskingChangesNothing(t *testing.T) {
	b := newBoth()
	b.make(t, 5, 2, 2)
	b.make(t, 6, 2, 2)
	b.hold(t, 1)
	for range 5 {
		for _, n := range append([]int{0, 1, 2}, noNumbers...) {
			b.pool.Image(n)
			b.pool.Held(n)
		}
		for _, id := range someIds {
			b.pool.Find(id)
		}
		b.pool.There()
		b.check(t, "asked")
	}
	if n, err := b.make(t, 7, 1, 1); n != 2 || err != api.OK {
		t.Error(n, err)
	}
	b.check(t, "made")
}

// Two pools, told in turns, have nothing of one another: neither names, nor numbers, nor holds, nor images.
func TestTwoPools(t *testing.T) {
	a, b := newBoth(), newBoth()
	var s step
	for i := range 400 {
		p, o := a, b
		if i%3 == 0 {
			p, o = b, a
		}
		anything(t, &s, p)
		if i%20 == 0 {
			p.check(t, i)
			o.check(t, i)
		}
	}
	a.check(t, "a")
	b.check(t, "b")
	for _, o := range a.words.all {
		for _, x := range b.words.all {
			if o.image != nil && o.image == x.image {
				t.Fatal("one image")
			}
		}
	}
}

// P12.3

// A buffer is told free as often as its last hold is let while it is named, not more and not less.
func TestFreeAsOftenAsLastHold(t *testing.T) {
	b := newBoth()
	b.make(t, 5, 1, 1)
	s, held, last, told := step{7}, 0, 0, 0
	for i := range 5000 {
		if s.next(2) == 0 {
			b.hold(t, 0)
			held++
		} else {
			if held > 0 {
				held--
				if held == 0 {
					last++
				}
			}
			if _, free := b.let(t, 0); free {
				told++
			}
		}
		if told != last || b.pool.Held(0) != held {
			t.Fatal(i, told, last, held)
		}
		if err := b.write(t, 5, dot, gray(1, byte(i))); (err == api.ErrBusy) != (held > 0) {
			t.Fatal(i, err, held)
		}
		b.light(t, i)
	}
	if told < 10 {
		t.Fatal("too few", told)
	}
}

// Every row of six steps, of a pool without buffers, and of one whose first buffer is held and whose name is given again.
func TestEveryRow(t *testing.T) {
	steps := []func(b both){
		func(b both) { b.make(t, 7, 1, 1) },
		func(b both) { b.destroy(t, 7) },
		func(b both) { b.hold(t, 0) },
		func(b both) { b.hold(t, 1) },
		func(b both) { b.let(t, 0) },
		func(b both) { b.let(t, 1) },
		func(b both) { b.write(t, 7, dot, gray(1, 3)) },
	}
	const long = 6
	rows := 1
	for range long {
		rows *= len(steps)
	}
	for _, start := range [][]int{nil, {0, 2, 1, 0}} {
		for row := range rows {
			b := newBoth()
			for _, at := range start {
				steps[at](b)
			}
			for rest, i := row, 0; i < long; rest, i = rest/len(steps), i+1 {
				steps[rest%len(steps)](b)
			}
			b.light(t, row)
			b.find(t, 7)
		}
	}
}

// anything tells a pool anything, of a few ids and of the numbers that are, or were.
func anything(t *testing.T, s *step, b both) {
	t.Helper()
	id := s.next(6) - 1
	n := len(b.words.all) - s.next(8)
	switch s.next(9) {
	case 0, 1:
		b.make(t, id, s.next(5), s.next(4)+s.next(2)*s.next(254))
	case 2:
		b.destroy(t, id)
	case 3, 4:
		b.hold(t, n)
	case 5, 6:
		b.let(t, n)
	case 7:
		r := rect(s.next(3)-1, s.next(2), s.next(5), s.next(4))
		l := gray(max(r.X1-r.X0, 0)*max(r.Y1-r.Y0, 0), byte(s.next(256)))
		switch s.next(12) {
		case 0:
			l = append(l, 1)
		case 1:
			l = l[:len(l)/2]
		case 2:
			if len(l) > 3 {
				l[0], l[3] = 0, 1
			}
		}
		b.write(t, id, r, l)
	case 8:
		b.find(t, id)
		b.number(t, n, n)
	}
}

// Long rows of steps.
func TestSteps(t *testing.T) {
	for start := range 40 {
		s := step{uint64(start)}
		b := newBoth()
		for i := range 1500 {
			anything(t, &s, b)
			if l := b.pool.There(); !slices.Equal(l, b.words.there()) {
				t.Fatal(start, i, l, b.words.there())
			}
			if i%250 == 0 {
				b.check(t, i, 3, 4)
			}
		}
		b.check(t, start, 3, 4)
	}
}

// Ever new buffers are made and gone, by either way: of those that are gone nothing is kept.
func TestManyBuffers(t *testing.T) {
	p := New()
	for n := range 50000 {
		if made, err := p.Make(n%5, 1, 1); made != n || err != api.OK {
			t.Fatal(n, made, err)
		}
		if n%2 == 0 {
			p.Hold(n)
		}
		if err := p.Destroy(n % 5); err != api.OK {
			t.Fatal(n, err)
		}
		if n%2 == 0 {
			if id, free := p.Let(n); id != n%5 || free {
				t.Fatal(n, id, free)
			}
		}
	}
	if len(p.There()) != 0 || len(p.buffers) != 0 || len(p.names) != 0 {
		t.Error("kept", len(p.There()), len(p.buffers), len(p.names))
	}
}
