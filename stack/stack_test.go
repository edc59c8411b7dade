package stack

import (
	"iter"
	"math"
	"slices"
	"testing"

	"rondel/api"
)

// key is the one of a client and an id.
func key(client, id int) Key { return Key{Client: client, Id: id} }

// one is a key of the client 1.
func one(id int) Key { return key(1, id) }

// list is a list of keys of the client 1.
func list(ids ...int) []Key {
	var l []Key
	for _, id := range ids {
		l = append(l, one(id))
	}
	return l
}

// oddKeys may all be: any numbers may. Some would be one, if their numbers were swapped, added or put together, or cut to fewer bytes.
var oddKeys = []Key{
	{}, {0, 1}, {1, 0}, {1, 1}, {1, 2}, {2, 1}, {2, 2}, {3, 0}, {0, 3}, {-1, 1}, {1, -1}, {-1, -1}, {-1, 0}, {0, -1},
	{1, 11}, {11, 1}, {1, 256}, {1, 257}, {257, 1}, {256, 1}, {1 << 8, 0}, {1 << 16, 1}, {1, 1 << 16}, {1, 1<<16 + 1},
	{1 << 32, 1}, {1<<32 + 1, 1}, {1, 1 << 32}, {1, 1<<32 + 1}, {0, 1<<32 + 1}, {1 << 31, 1}, {-1 << 31, 1}, {1, 1<<32 - 1},
	{math.MaxInt, math.MinInt}, {math.MinInt, math.MaxInt}, {math.MaxInt, math.MaxInt}, {math.MinInt, math.MinInt},
	{math.MaxInt, 1}, {math.MinInt, 1}, {1, math.MaxInt}, {1, math.MinInt}, {math.MinInt + 1, 1}, {math.MaxInt - 1, 1},
}

// oddClients are the clients of some of them, and others.
var oddClients = []int{math.MinInt, math.MinInt + 1, -1 << 32, -1<<32 + 1, -1 << 31, -257, -256, -255, -2, -1, 0, 1, 2, 3, 11, 255, 256, 257, 1 << 16, 1<<16 + 1, 1 << 31, 1 << 32, 1<<32 + 1, math.MaxInt - 1, math.MaxInt}

// words is what the chapter tells of a stack: how high each key stands; the lowest is not at any place but below all others.
type words struct{ height map[Key]int }

func newWords(l ...Key) *words {
	w := &words{map[Key]int{}}
	for _, k := range l {
		w.add(k)
	}
	return w
}

// row is the keys, from the lowest on.
func (w *words) row() []Key {
	var l []Key
	for k := range w.height {
		l = append(l, k)
	}
	slices.SortFunc(l, func(a, b Key) int { return w.height[a] - w.height[b] })
	return l
}

func (w *words) has(k Key) bool {
	_, ok := w.height[k]
	return ok
}

// highest is above all others, and lowest below them.
func (w *words) highest() int {
	h := 0
	for _, is := range w.height {
		h = max(h, is+1)
	}
	return h
}

func (w *words) lowest() int {
	h := 0
	for _, is := range w.height {
		h = min(h, is-1)
	}
	return h
}

func (w *words) add(k Key) bool {
	if w.has(k) {
		return false
	}
	w.height[k] = w.highest()
	return true
}

func (w *words) drop(k Key) bool {
	was := w.has(k)
	delete(w.height, k)
	return was
}

func (w *words) dropAll(client int) []Key {
	var gone []Key
	for _, k := range w.row() {
		if k.Client == client {
			gone = append(gone, k)
		}
	}
	for _, k := range gone {
		w.drop(k)
	}
	return gone
}

func (w *words) raise(k, over Key) api.Errno {
	if !w.has(k) || !w.has(over) {
		return api.ErrNone
	}
	if k == over {
		return api.ErrArg
	}
	// All that stand over the other one make room.
	for is, h := range w.height {
		if h > w.height[over] {
			w.height[is] = h + 1
		}
	}
	w.height[k] = w.height[over] + 1
	return api.OK
}

func (w *words) top(k Key) api.Errno {
	if !w.has(k) {
		return api.ErrNone
	}
	w.height[k] = w.highest()
	return api.OK
}

func (w *words) lower(k Key) api.Errno {
	if !w.has(k) {
		return api.ErrNone
	}
	w.height[k] = w.lowest()
	return api.OK
}

// both are a stack and the chapter's words of it, which are told the same.
type both struct {
	stack *Stack
	words *words
}

func newBoth(l ...Key) both { return both{New(l...), newWords(l...)} }

func (b both) add(t *testing.T, k Key) bool {
	t.Helper()
	got, want := b.stack.Add(k), b.words.add(k)
	if got != want {
		t.Fatal("add", k, got, want)
	}
	return got
}

func (b both) drop(t *testing.T, k Key) bool {
	t.Helper()
	got, want := b.stack.Drop(k), b.words.drop(k)
	if got != want {
		t.Fatal("drop", k, got, want)
	}
	return got
}

func (b both) dropAll(t *testing.T, client int) []Key {
	t.Helper()
	got, want := b.stack.DropAll(client), b.words.dropAll(client)
	if !slices.Equal(got, want) {
		t.Fatal("drop all", client, got, want)
	}
	return got
}

func (b both) raise(t *testing.T, k, over Key) api.Errno {
	t.Helper()
	got, want := b.stack.Raise(k, over), b.words.raise(k, over)
	if got != want {
		t.Fatal("raise", k, over, got, want)
	}
	return got
}

func (b both) top(t *testing.T, k Key) api.Errno {
	t.Helper()
	got, want := b.stack.Top(k), b.words.top(k)
	if got != want {
		t.Fatal("top", k, got, want)
	}
	return got
}

func (b both) lower(t *testing.T, k Key) api.Errno {
	t.Helper()
	got, want := b.stack.Lower(k), b.words.lower(k)
	if got != want {
		t.Fatal("lower", k, got, want)
	}
	return got
}

// light asks for all keys alone, both ways.
func (b both) light(t *testing.T, where any) {
	t.Helper()
	row := b.words.row()
	if l := b.stack.All(); !slices.Equal(l, row) {
		t.Fatal(where, "all", l, row)
	}
	slices.Reverse(row)
	if l := slices.Collect(b.stack.Down()); !slices.Equal(l, row) {
		t.Fatal(where, "down", l, row)
	}
}

// of asks all there is to ask of a key.
func (b both) of(t *testing.T, where any, k Key) {
	t.Helper()
	row := b.words.row()
	want := slices.Index(row, k)
	if at := b.stack.At(k); at != want {
		t.Fatal(where, "at", k, at, want)
	}
	if want < 0 {
		row = nil
	}
	if l := b.stack.Over(k); !slices.Equal(l, row[want+1:]) {
		t.Fatal(where, "over", k, l, row[want+1:])
	}
}

// check asks a stack all there is to ask.
func (b both) check(t *testing.T, where any, keys ...Key) {
	t.Helper()
	b.light(t, where)
	for _, k := range slices.Concat(keys, b.words.row(), oddKeys) {
		b.of(t, where, k)
	}
	b.light(t, where)
}

// dice is a row of numbers that is the same each time.
type dice uint64

func (d *dice) roll(n int) int {
	*d = *d*6364136223846793005 + 1442695040888963407
	return int(uint64(*d) >> 33 % uint64(n))
}

// pick is one of a list.
func pick[T any](d *dice, l []T) T { return l[d.roll(len(l))] }

// rows are all that can be made of some of these, each once.
func rows(l []Key) [][]Key {
	all := [][]Key{nil}
	for at := 0; at < len(all); at++ {
		for _, k := range l {
			if !slices.Contains(all[at], k) {
				all = append(all, append(slices.Clone(all[at]), k))
			}
		}
	}
	return all
}

// four are keys of one client with several ids, and of one id with several clients.
var four = []Key{{1, 1}, {1, 2}, {2, 1}, {2, 2}}

// The chapter's own example.
func TestExample(t *testing.T) {
	s := New(list(1, 2, 3)...)
	if err := s.Raise(one(1), one(2)); err != api.OK {
		t.Fatal(err)
	}
	if l := s.All(); !slices.Equal(l, list(2, 1, 3)) {
		t.Fatal(l)
	}
}

// P14.1

// Of none, a stack is empty; nothing stands there.
func TestEmpty(t *testing.T) {
	for name, b := range map[string]both{
		"none":    newBoth(),
		"nil":     newBoth([]Key(nil)...),
		"empty":   newBoth([]Key{}...),
		"dropped": newBoth(one(1)),
		"all":     newBoth(one(1), one(2)),
	} {
		switch name {
		case "dropped":
			b.drop(t, one(1))
		case "all":
			b.dropAll(t, 1)
		}
		if len(b.stack.All()) != 0 || len(slices.Collect(b.stack.Down())) != 0 {
			t.Fatal(name)
		}
		for _, k := range oddKeys {
			if b.drop(t, k) || b.raise(t, k, one(1)) != api.ErrNone || b.raise(t, one(1), k) != api.ErrNone || b.raise(t, k, k) != api.ErrNone || b.top(t, k) != api.ErrNone || b.lower(t, k) != api.ErrNone {
				t.Fatal(name, k)
			}
			if b.stack.At(k) != -1 || len(b.stack.Over(k)) != 0 {
				t.Fatal(name, k, b.stack.At(k), b.stack.Over(k))
			}
		}
		for _, c := range oddClients {
			if l := b.dropAll(t, c); len(l) != 0 {
				t.Fatal(name, c, l)
			}
		}
		b.check(t, name)
		if !b.add(t, one(5)) || !b.add(t, key(0, 0)) {
			t.Fatal(name)
		}
		if l := b.stack.All(); !slices.Equal(l, []Key{{1, 5}, {0, 0}}) {
			t.Fatal(name, l)
		}
		b.check(t, name)
	}
}

// New lays keys from the lowest on; of one that is told several times the first one stands.
func TestNew(t *testing.T) {
	for _, c := range []struct{ of, want []int }{
		{nil, nil},
		{[]int{7}, []int{7}},
		{[]int{1, 2, 3}, []int{1, 2, 3}},
		{[]int{3, 2, 1}, []int{3, 2, 1}},
		{[]int{2, 3, 1}, []int{2, 3, 1}},
		{[]int{1, 1}, []int{1}},
		{[]int{1, 1, 1, 1}, []int{1}},
		{[]int{1, 2, 1}, []int{1, 2}},
		{[]int{2, 1, 1}, []int{2, 1}},
		{[]int{1, 2, 2, 1}, []int{1, 2}},
		{[]int{3, 1, 2, 1, 3, 2, 4}, []int{3, 1, 2, 4}},
		{[]int{4, 4, 3, 4, 3, 2, 4, 3, 2, 1}, []int{4, 3, 2, 1}},
	} {
		b := newBoth(list(c.of...)...)
		if l := b.stack.All(); !slices.Equal(l, list(c.want...)) {
			t.Error(c.of, l)
		}
		b.check(t, c.of)
	}
	// Each list of up to five of three keys.
	three := []Key{{1, 1}, {1, 2}, {2, 1}}
	for long := range 6 {
		count := 1
		for range long {
			count *= 3
		}
		for n := range count {
			var l []Key
			for rest := n; len(l) < long; rest /= 3 {
				l = append(l, three[rest%3])
			}
			newBoth(l...).check(t, l)
		}
	}
}

// Keys differ where either number does; all numbers may be.
func TestOddKeys(t *testing.T) {
	b := newBoth(oddKeys...)
	if l := b.stack.All(); !slices.Equal(l, oddKeys) {
		t.Fatal(l)
	}
	b.check(t, "all")
	newBoth(slices.Concat(oddKeys, oddKeys)...).check(t, "twice")
	for i, k := range oddKeys {
		b := newBoth(slices.Delete(slices.Clone(oddKeys), i, i+1)...)
		if b.stack.At(k) != -1 || b.drop(t, k) || b.top(t, k) != api.ErrNone || b.lower(t, k) != api.ErrNone || !b.add(t, k) {
			t.Fatal(k)
		}
		b.check(t, k)
		if b.lower(t, k) != api.OK || b.stack.At(k) != 0 {
			t.Fatal(k)
		}
		b.check(t, k)
		if b.top(t, k) != api.OK || b.stack.At(k) != len(oddKeys)-1 {
			t.Fatal(k)
		}
		b.check(t, k)
		if over := oddKeys[(i+5)%len(oddKeys)]; b.raise(t, k, over) != api.OK || b.stack.At(k) != b.stack.At(over)+1 {
			t.Fatal(k)
		}
		b.check(t, k)
		if !b.drop(t, k) || b.drop(t, k) {
			t.Fatal(k)
		}
		b.check(t, k)
	}
}

// Add lays on top what does not stand there; else nothing is done.
func TestAdd(t *testing.T) {
	for _, row := range rows(four) {
		for _, k := range four {
			b := newBoth(row...)
			stood := slices.Contains(row, k)
			if b.add(t, k) == stood {
				t.Fatal(row, k)
			}
			want := row
			if !stood {
				want = append(slices.Clone(row), k)
			}
			if l := b.stack.All(); !slices.Equal(l, want) {
				t.Fatal(row, k, l)
			}
			b.check(t, row)
			if b.add(t, k) {
				t.Fatal(row, k)
			}
			b.check(t, row)
		}
	}
}

// Drop takes one key away, and the others' row is as it was.
func TestDrop(t *testing.T) {
	for _, row := range rows(four) {
		for _, k := range four {
			b := newBoth(row...)
			if b.drop(t, k) != slices.Contains(row, k) {
				t.Fatal(row, k)
			}
			if l := b.stack.All(); !slices.Equal(l, without(row, k)) {
				t.Fatal(row, k, l)
			}
			b.check(t, row, four...)
			if b.drop(t, k) {
				t.Fatal(row, k)
			}
			b.check(t, row, four...)
			// It may stand there again: on top.
			if !b.add(t, k) || b.stack.At(k) != len(without(row, k)) {
				t.Fatal(row, k)
			}
			b.check(t, row, four...)
		}
	}
}

// without is a row that a key does not stand in.
func without(row []Key, k Key) []Key {
	var l []Key
	for _, is := range row {
		if is != k {
			l = append(l, is)
		}
	}
	return l
}

// DropAll takes all keys of a client away, and tells them from the lowest on.
func TestDropAll(t *testing.T) {
	for _, c := range []struct {
		row        []Key
		gone, left []Key
	}{
		{nil, nil, nil},
		{[]Key{{1, 1}}, []Key{{1, 1}}, nil},
		{[]Key{{2, 1}}, nil, []Key{{2, 1}}},
		{[]Key{{1, 3}, {1, 1}, {1, 2}}, []Key{{1, 3}, {1, 1}, {1, 2}}, nil},
		{[]Key{{2, 1}, {1, 9}, {3, 1}, {1, 4}, {1, 5}, {0, 1}}, []Key{{1, 9}, {1, 4}, {1, 5}}, []Key{{2, 1}, {3, 1}, {0, 1}}},
		{[]Key{{1, 9}, {2, 1}, {2, 9}, {1, 2}}, []Key{{1, 9}, {1, 2}}, []Key{{2, 1}, {2, 9}}},
		{[]Key{{2, 9}, {1, 1}, {-1, 1}, {257, 1}, {1<<32 + 1, 1}}, []Key{{1, 1}}, []Key{{2, 9}, {-1, 1}, {257, 1}, {1<<32 + 1, 1}}},
		{[]Key{{2, 1}, {0, 1}, {-1, 1}}, nil, []Key{{2, 1}, {0, 1}, {-1, 1}}},
	} {
		b := newBoth(c.row...)
		if l := b.dropAll(t, 1); !slices.Equal(l, c.gone) {
			t.Error(c.row, l)
		}
		if l := b.stack.All(); !slices.Equal(l, c.left) {
			t.Error(c.row, l)
		}
		b.check(t, c.row, c.row...)
		// They do not stand there any more.
		if l := b.dropAll(t, 1); len(l) != 0 {
			t.Error(c.row, l)
		}
		for _, k := range c.gone {
			if b.drop(t, k) || b.top(t, k) != api.ErrNone {
				t.Error(c.row, k)
			}
		}
		b.check(t, c.row, c.row...)
		for _, k := range slices.Backward(c.gone) {
			b.add(t, k)
		}
		b.check(t, c.row)
	}
	for _, row := range rows(four) {
		for _, client := range []int{0, 1, 2, 3} {
			b := newBoth(row...)
			b.dropAll(t, client)
			b.check(t, row, four...)
		}
	}
	for _, client := range oddClients {
		b := newBoth(oddKeys...)
		b.dropAll(t, client)
		b.check(t, client)
	}
}

// The row of what a client has is the stack's, as it is when all are dropped.
func TestDropAllOfMoved(t *testing.T) {
	b := newBoth(one(1), key(2, 1), one(2), one(3))
	b.top(t, one(1))
	b.lower(t, one(3))
	b.raise(t, one(2), one(3))
	b.drop(t, one(2))
	b.add(t, one(2))
	if l := b.dropAll(t, 1); !slices.Equal(l, list(3, 1, 2)) {
		t.Error(l)
	}
	if l := b.stack.All(); !slices.Equal(l, []Key{{2, 1}}) {
		t.Error(l)
	}
	b.check(t, "moved")
}

// P14.2

// Each key over each other one, of each row.
func TestRaise(t *testing.T) {
	for _, c := range []struct {
		k, over int
		want    []int
	}{
		{1, 2, []int{2, 1, 3, 4}},
		{1, 3, []int{2, 3, 1, 4}},
		{1, 4, []int{2, 3, 4, 1}},
		{2, 1, []int{1, 2, 3, 4}},
		{2, 3, []int{1, 3, 2, 4}},
		{2, 4, []int{1, 3, 4, 2}},
		{3, 1, []int{1, 3, 2, 4}},
		{3, 2, []int{1, 2, 3, 4}},
		{3, 4, []int{1, 2, 4, 3}},
		{4, 1, []int{1, 4, 2, 3}},
		{4, 2, []int{1, 2, 4, 3}},
		{4, 3, []int{1, 2, 3, 4}},
	} {
		s := New(list(1, 2, 3, 4)...)
		if err := s.Raise(one(c.k), one(c.over)); err != api.OK {
			t.Error(c, err)
		}
		if l := s.All(); !slices.Equal(l, list(c.want...)) {
			t.Error(c, l)
		}
	}
	for _, row := range rows(four) {
		for _, k := range four {
			for _, over := range four {
				b := newBoth(row...)
				err := b.raise(t, k, over)
				b.check(t, row, four...)
				if err == api.OK && b.stack.At(k) != b.stack.At(over)+1 {
					t.Fatal(row, k, over)
				}
				// What is just over it stays there.
				if b.raise(t, k, over) != err {
					t.Fatal(row, k, over)
				}
				b.check(t, row, four...)
			}
		}
	}
}

// Which error Raise tells: that one of both is not there comes ahead of that both are one; nothing is changed.
func TestRaiseErrors(t *testing.T) {
	for _, c := range []struct {
		k, over int
		want    api.Errno
	}{
		{1, 1, api.ErrArg},
		{2, 2, api.ErrArg},
		{3, 3, api.ErrArg},
		{1, 4, api.ErrNone},
		{4, 1, api.ErrNone},
		{3, 4, api.ErrNone},
		{4, 3, api.ErrNone},
		{4, 5, api.ErrNone},
		{4, 4, api.ErrNone},
		{0, 0, api.ErrNone},
		{-1, -1, api.ErrNone},
		{-1, 3, api.ErrNone},
	} {
		b := newBoth(list(1, 2, 3)...)
		if err := b.raise(t, one(c.k), one(c.over)); err != c.want {
			t.Error(c, err)
		}
		if l := b.stack.All(); !slices.Equal(l, list(1, 2, 3)) {
			t.Error(c, l)
		}
		b.check(t, c)
	}
	// Another client's key of the same id, and the same client's of another id, is another one.
	b := newBoth(key(1, 1), key(2, 1), key(1, 2))
	for _, c := range []struct {
		k, over Key
		want    api.Errno
	}{
		{key(2, 2), key(2, 2), api.ErrNone},
		{key(2, 2), key(1, 2), api.ErrNone},
		{key(1, 2), key(2, 2), api.ErrNone},
		{key(2, 1), key(2, 1), api.ErrArg},
		{key(1, 1), key(2, 1), api.OK},
		{key(1, 1), key(1, 2), api.OK},
		{key(1, 2), key(2, 1), api.OK},
	} {
		if err := b.raise(t, c.k, c.over); err != c.want {
			t.Error(c, err)
		}
		b.check(t, c, four...)
	}
	// What was dropped is not there, though it was.
	b = newBoth(list(1, 2, 3)...)
	b.drop(t, one(2))
	if b.raise(t, one(2), one(1)) != api.ErrNone || b.raise(t, one(1), one(2)) != api.ErrNone || b.raise(t, one(2), one(2)) != api.ErrNone {
		t.Error("dropped")
	}
	b.check(t, "dropped")
	for _, k := range oddKeys {
		for _, over := range oddKeys {
			b.raise(t, k, over)
		}
	}
	b.check(t, "odd")
}

// The lowest, the topmost and each between, of each row, go on top, or lowest.
func TestTopAndLower(t *testing.T) {
	for _, c := range []struct {
		k          int
		top, lower []int
	}{
		{1, []int{2, 3, 4, 1}, []int{1, 2, 3, 4}},
		{2, []int{1, 3, 4, 2}, []int{2, 1, 3, 4}},
		{3, []int{1, 2, 4, 3}, []int{3, 1, 2, 4}},
		{4, []int{1, 2, 3, 4}, []int{4, 1, 2, 3}},
	} {
		s := New(list(1, 2, 3, 4)...)
		if err := s.Top(one(c.k)); err != api.OK || !slices.Equal(s.All(), list(c.top...)) {
			t.Error("top", c.k, err, s.All())
		}
		s = New(list(1, 2, 3, 4)...)
		if err := s.Lower(one(c.k)); err != api.OK || !slices.Equal(s.All(), list(c.lower...)) {
			t.Error("lower", c.k, err, s.All())
		}
	}
	for _, row := range rows(four) {
		for _, k := range append([]Key{{}, {2, 3}, {3, 2}}, four...) {
			want := api.OK
			if !slices.Contains(row, k) {
				want = api.ErrNone
			}
			for range 2 {
				b := newBoth(row...)
				for range 2 {
					if err := b.top(t, k); err != want {
						t.Fatal(row, k, err)
					}
					b.check(t, row, four...)
				}
				b = newBoth(row...)
				for range 2 {
					if err := b.lower(t, k); err != want {
						t.Fatal(row, k, err)
					}
					b.check(t, row, four...)
				}
			}
		}
	}
}

// Places rise from 0 on; over each key stand those of higher places.
func TestAtAndOver(t *testing.T) {
	s := New(key(1, 5), key(2, 5), key(1, 6), key(0, 0))
	for at, k := range []Key{{1, 5}, {2, 5}, {1, 6}, {}} {
		if s.At(k) != at {
			t.Error(k, s.At(k))
		}
		if l, want := s.Over(k), []Key{{1, 5}, {2, 5}, {1, 6}, {}}[at+1:]; !slices.Equal(l, want) {
			t.Error(k, l, want)
		}
	}
	for _, k := range []Key{{5, 1}, {5, 2}, {2, 6}, {0, 5}, {1, 0}, {-1, -1}} {
		if s.At(k) != -1 || len(s.Over(k)) != 0 {
			t.Error(k, s.At(k), s.Over(k))
		}
	}
}

// Down tells the row as it was when it was asked, as often as it is gone through, whatever is done ahead of that, and meanwhile.
func TestDownAsItWas(t *testing.T) {
	changes := map[string]func(s *Stack){
		"nothing": func(s *Stack) {},
		"add":     func(s *Stack) { s.Add(one(9)) },
		"drop":    func(s *Stack) { s.Drop(one(1)) },
		"top one": func(s *Stack) { s.Drop(one(3)) },
		"all":     func(s *Stack) { s.DropAll(1) },
		"raise":   func(s *Stack) { s.Raise(one(1), one(2)) },
		"top":     func(s *Stack) { s.Top(one(1)) },
		"lower":   func(s *Stack) { s.Lower(one(3)) },
		"new row": func(s *Stack) { s.DropAll(1); s.Add(one(7)); s.Add(one(8)); s.Add(one(9)); s.Add(one(1)) },
		"told":    func(s *Stack) { clear(s.All()) },
	}
	for name, change := range changes {
		for at := range 4 {
			s := New(list(1, 2, 3)...)
			down := s.Down()
			if at == 3 {
				change(s)
			}
			var l []Key
			for k := range down {
				if len(l) == at {
					change(s)
				}
				l = append(l, k)
			}
			if !slices.Equal(l, list(3, 2, 1)) {
				t.Error(name, at, l)
			}
			if l := slices.Collect(down); !slices.Equal(l, list(3, 2, 1)) {
				t.Error(name, at, "again", l)
			}
			want := New(list(1, 2, 3)...)
			change(want)
			if l := s.All(); !slices.Equal(l, want.All()) {
				t.Error(name, at, "changed", l)
			}
			// What is asked now tells what is there now.
			row := want.All()
			slices.Reverse(row)
			if l := slices.Collect(s.Down()); !slices.Equal(l, row) {
				t.Error(name, at, "asked behind", l)
			}
		}
	}
	// Of an empty one that has keys by now none is told.
	s := New()
	down := s.Down()
	s.Add(one(1))
	for k := range down {
		t.Error(k)
	}
}

// Down ends where it is stopped, and can be gone through anew.
func TestDownStopped(t *testing.T) {
	for long := range 6 {
		var ids []int
		for id := range long {
			ids = append(ids, id)
		}
		s := New(list(ids...)...)
		down := s.Down()
		for stop := 1; stop <= long+1; stop++ {
			var l []Key
			down(func(k Key) bool {
				l = append(l, k)
				return len(l) < stop
			})
			want := list(ids...)
			slices.Reverse(want)
			if !slices.Equal(l, want[:min(stop, long)]) {
				t.Error(long, stop, l)
			}
		}
		if l := s.All(); !slices.Equal(l, list(ids...)) {
			t.Error(long, l)
		}
	}
}

// Two that go through one row do so apart, each in its own time.
func TestDownApart(t *testing.T) {
	s := New(list(1, 2, 3)...)
	down := s.Down()
	a, stopA := iter.Pull(down)
	b, stopB := iter.Pull(down)
	defer stopA()
	defer stopB()
	var l []Key
	tell := func(next func() (Key, bool)) {
		if k, ok := next(); ok {
			l = append(l, k)
		}
	}
	for _, next := range []func() (Key, bool){a, a, b, a, a, b, b, b} {
		tell(next)
	}
	if !slices.Equal(l, list(3, 2, 3, 1, 2, 1)) {
		t.Error(l)
	}
	n := 0
	for range down {
		for range down {
			n++
		}
	}
	if n != 9 {
		t.Error(n)
	}
}

// R4

// What is handed in is not changed, nor kept, nor the room behind it.
func TestHandedIn(t *testing.T) {
	room := list(1, 2, 1, 3, 8, 9)
	l := room[:4]
	s := New(l...)
	if !slices.Equal(room, list(1, 2, 1, 3, 8, 9)) {
		t.Error(room)
	}
	s.Add(one(4))
	s.Add(one(5))
	s.Add(one(6))
	s.Drop(one(2))
	s.Lower(one(3))
	if !slices.Equal(room, list(1, 2, 1, 3, 8, 9)) {
		t.Error(room)
	}
	clear(room)
	if l := s.All(); !slices.Equal(l, list(3, 1, 4, 5, 6)) {
		t.Error(l)
	}
	// A list without one key twice could be kept as it is: it is not.
	room = append(make([]Key, 0, 9), list(1, 2, 3)...)
	s = New(room...)
	s.Add(one(4))
	s.Top(one(1))
	if !slices.Equal(room[:4], []Key{one(1), one(2), one(3), {}}) {
		t.Error(room[:4])
	}
	clear(room)
	if l := s.All(); !slices.Equal(l, list(2, 3, 4, 1)) {
		t.Error(l)
	}
}

// spoil writes to a list, and to the room behind it.
func spoil(l []Key) {
	l = l[:cap(l)]
	for i := range l {
		l[i] = key(-7, -7)
	}
}

// What was told is the asker's own: written to behind, nothing comes of it; and no step changes it.
func TestToldApart(t *testing.T) {
	b := newBoth(one(1), key(2, 1), one(2), key(2, 2), one(3))
	for range 3 {
		spoil(b.stack.All())
		spoil(b.stack.Over(one(1)))
		spoil(b.stack.Over(key(2, 2)))
		spoil(b.stack.Over(one(3)))
		spoil(slices.Collect(b.stack.Down()))
		b.check(t, "spoiled")
	}
	all, again := b.stack.All(), b.stack.All()
	over, overs := b.stack.Over(key(2, 1)), b.stack.Over(key(2, 1))
	down := b.stack.Down()
	spoil(again)
	spoil(overs)
	b.top(t, one(1))
	b.lower(t, one(3))
	b.raise(t, key(2, 2), one(3))
	b.check(t, "moved")
	gone := b.dropAll(t, 1)
	b.add(t, one(8))
	b.add(t, key(2, 9))
	b.lower(t, one(8))
	b.drop(t, key(2, 2))
	b.check(t, "dropped")
	if want := []Key{{1, 1}, {2, 1}, {1, 2}, {2, 2}, {1, 3}}; !slices.Equal(all, want) {
		t.Error(all)
	}
	if want := []Key{{1, 2}, {2, 2}, {1, 3}}; !slices.Equal(over, want) {
		t.Error(over)
	}
	if want := list(3, 2, 1); !slices.Equal(gone, want) {
		t.Error(gone)
	}
	spoil(gone)
	spoil(all)
	spoil(over)
	b.check(t, "written to")
	if want := []Key{{1, 3}, {2, 2}, {1, 2}, {2, 1}, {1, 1}}; !slices.Equal(slices.Collect(down), want) {
		t.Error(slices.Collect(down))
	}
	// Each tells one of an empty rest, too.
	spoil(b.dropAll(t, 1))
	spoil(b.dropAll(t, 2))
	b.check(t, "empty")
	spoil(b.stack.All())
	b.add(t, one(1))
	b.check(t, "not empty")
}

// What DropAll tells has no room in which other keys stand.
func TestDroppedApart(t *testing.T) {
	for gone := range 10 {
		for left := range 6 {
			b := newBoth()
			for id := range max(gone, left) {
				if id < gone {
					b.add(t, key(1, id))
				}
				if id < left {
					b.add(t, key(2, id))
				}
			}
			spoil(b.dropAll(t, 1))
			b.check(t, gone)
			b.add(t, key(3, 1))
			b.lower(t, key(3, 1))
			b.check(t, left)
		}
	}
}

// Room that is left by what was dropped is not told to another one.
func TestRoomApart(t *testing.T) {
	b := newBoth()
	var d dice
	type asked struct{ told, was []Key }
	var all []asked
	for i := range 600 {
		anything(t, &d, b)
		var l []Key
		switch d.roll(3) {
		case 0:
			l = b.stack.All()
		case 1:
			l = b.stack.Over(pick(&d, four))
		case 2:
			l = b.dropAll(t, d.roll(3))
		}
		all = append(all, asked{l, slices.Clone(l)})
		b.light(t, i)
	}
	for i, a := range all {
		if !slices.Equal(a.told, a.was) {
			t.Fatal(i, a)
		}
		spoil(a.told)
		b.light(t, i)
	}
}

// Two stacks have nothing of one another, though they were made of one list.
func TestTwoStacks(t *testing.T) {
	l := slices.Clone(four)
	a, b := both{New(l...), newWords(l...)}, both{New(l...), newWords(l...)}
	var d dice
	for i := range 600 {
		if d.roll(3) == 0 {
			anything(t, &d, a)
		} else {
			anything(t, &d, b)
		}
		a.light(t, i)
		b.light(t, i)
	}
	if !slices.Equal(l, four) {
		t.Error(l)
	}
}

// To ask changes nothing.
func TestAskingChangesNothing(t *testing.T) {
	b := newBoth(four...)
	for range 5 {
		for _, k := range oddKeys {
			b.stack.At(k)
			b.stack.Over(k)
		}
		b.stack.All()
		for range b.stack.Down() {
			break
		}
		if l := b.stack.All(); !slices.Equal(l, four) {
			t.Fatal(l)
		}
	}
	b.check(t, "asked")
}

// R5: however a row came to be, it is the same.
func TestSameRow(t *testing.T) {
	a := New(list(1, 2, 3)...)
	b := New(list(3)...)
	b.Add(one(9))
	b.Add(one(1))
	b.Lower(one(1))
	b.Add(one(2))
	b.Raise(one(2), one(1))
	b.Drop(one(9))
	c := New(list(3, 2, 1, 0)...)
	c.Drop(one(0))
	c.Top(one(2))
	c.Top(one(3))
	for i := range 3 {
		if !slices.Equal(a.All(), b.All()) || !slices.Equal(a.All(), c.All()) {
			t.Fatal(i, a.All(), b.All(), c.All())
		}
		for _, s := range []*Stack{a, b, c} {
			s.Raise(one(1), one(3))
			s.Add(one(4 + i))
		}
	}
}

// P14.3

// moved tells whether two rows are one, but for the place of a key.
func moved(was, is []Key, k Key) bool { return slices.Equal(without(was, k), without(is, k)) }

// What is moved leaves the others' row as it was; what is not moved, for an error, leaves all.
func TestOthersRow(t *testing.T) {
	var keys []Key
	for i := range 12 {
		keys = append(keys, key(i%3, i/2))
	}
	b := newBoth(keys...)
	keys = append(keys, key(7, 7))
	d := dice(3)
	for i := range 20000 {
		was := b.stack.All()
		k, over := pick(&d, keys), pick(&d, keys)
		var err api.Errno
		switch d.roll(3) {
		case 0:
			if err = b.stack.Raise(k, over); err == api.OK && b.stack.At(k) != b.stack.At(over)+1 {
				t.Fatal(i, "raise", k, over)
			}
		case 1:
			if err = b.stack.Top(k); err == api.OK && b.stack.At(k) != len(was)-1 {
				t.Fatal(i, "top", k)
			}
		case 2:
			if err = b.stack.Lower(k); err == api.OK && b.stack.At(k) != 0 {
				t.Fatal(i, "lower", k)
			}
		}
		is := b.stack.All()
		if len(is) != len(was) || !moved(was, is, k) || err != api.OK && !slices.Equal(was, is) {
			t.Fatal(i, k, over, err, was, is)
		}
	}
}

// anything tells a stack anything, of a few keys.
func anything(t *testing.T, d *dice, b both) {
	t.Helper()
	k, over := key(d.roll(3), d.roll(4)), key(d.roll(3), d.roll(4))
	was := b.stack.All()
	switch d.roll(12) {
	case 0, 1, 2, 3:
		b.add(t, k)
	case 4:
		b.drop(t, k)
	case 5:
		if d.roll(4) == 0 {
			b.dropAll(t, d.roll(4))
		}
	case 6, 7, 8:
		b.raise(t, k, over)
	case 9:
		b.top(t, k)
	case 10:
		b.lower(t, k)
	case 11:
		b.of(t, k, k)
	}
	if is := b.stack.All(); len(is) == len(was) && !moved(was, is, k) {
		t.Fatal(k, over, was, is)
	}
}

// Long rows of steps.
func TestSteps(t *testing.T) {
	for start := range 40 {
		d := dice(start)
		b := newBoth()
		for i := range 1200 {
			anything(t, &d, b)
			b.light(t, i)
			if i%100 == 0 {
				b.check(t, i)
			}
		}
		b.check(t, start)
	}
}

// Every row of four steps, of an empty stack and of one that has three keys.
func TestEveryRow(t *testing.T) {
	x, y, z := key(1, 1), key(2, 1), key(1, 2)
	steps := []func(b both){
		func(b both) { b.add(t, x) },
		func(b both) { b.add(t, y) },
		func(b both) { b.add(t, z) },
		func(b both) { b.drop(t, x) },
		func(b both) { b.drop(t, y) },
		func(b both) { b.dropAll(t, 1) },
		func(b both) { b.dropAll(t, 2) },
		func(b both) { b.raise(t, x, y) },
		func(b both) { b.raise(t, y, x) },
		func(b both) { b.raise(t, x, z) },
		func(b both) { b.raise(t, z, y) },
		func(b both) { b.raise(t, x, x) },
		func(b both) { b.top(t, x) },
		func(b both) { b.top(t, z) },
		func(b both) { b.lower(t, y) },
		func(b both) { b.lower(t, z) },
	}
	const long = 4
	count := 1
	for range long {
		count *= len(steps)
	}
	for _, start := range [][]Key{nil, {x, y, z}} {
		for n := range count {
			b := newBoth(start...)
			for rest, i := n, 0; i < long; rest, i = rest/len(steps), i+1 {
				steps[rest%len(steps)](b)
			}
			b.light(t, n)
		}
	}
}

// As many keys as all clients may have, and each is moved.
func TestManyKeys(t *testing.T) {
	var l []Key
	for client := range api.MaxClients {
		for id := range api.MaxObjects {
			l = append(l, key(client, id+1))
		}
	}
	s := New(l...)
	if !slices.Equal(s.All(), l) {
		t.Fatal("made")
	}
	for _, k := range l {
		if s.Lower(k) != api.OK {
			t.Fatal("lower", k)
		}
	}
	if !slices.Equal(slices.Collect(s.Down()), l) {
		t.Fatal("lower")
	}
	for i := range l {
		k := l[i*37%len(l)]
		if s.Raise(k, l[5]) != api.OK && k != l[5] || k != l[5] && s.At(k) != s.At(l[5])+1 {
			t.Fatal("raise", k)
		}
	}
	for _, k := range l {
		if s.Top(k) != api.OK || len(s.Over(k)) != 0 {
			t.Fatal("top", k)
		}
	}
	if !slices.Equal(s.All(), l) {
		t.Fatal("top")
	}
	for client := range api.MaxClients {
		n := client * 5 % api.MaxClients
		if gone := s.DropAll(n); !slices.Equal(gone, l[n*api.MaxObjects:(n+1)*api.MaxObjects]) {
			t.Fatal("drop all", n, gone)
		}
	}
	if len(s.All()) != 0 {
		t.Fatal(s.All())
	}
}

// Ever new keys come and go, by either way: of those that are gone nothing is kept.
func TestNothingKept(t *testing.T) {
	s := New(key(-1, 0))
	for n := range 30000 {
		s.Add(key(n, 1))
		s.Add(key(n, 2))
		s.Top(key(-1, 0))
		if n%2 == 0 {
			s.Drop(key(n, 1))
			s.Drop(key(n, 2))
		} else {
			s.DropAll(n)
		}
	}
	if !slices.Equal(s.All(), []Key{{-1, 0}}) || cap(s.keys) > 16 {
		t.Error(s.All(), cap(s.keys))
	}
}
