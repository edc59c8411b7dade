package ids

import (
	"math"
	"slices"
	"testing"

	"rondel/api"
)

// highest is the highest id.
const highest = 4294967295

// someIds may be, and rise; they would not, if they were cut to fewer bytes, told as texts, or taken with a sign.
var someIds = []int{1, 2, 9, 10, 11, 31, 32, 33, 99, 100, 127, 128, 255, 256, 257, 65535, 65536, 1<<31 - 1, 1 << 31, 1<<31 + 1, 1<<32 - 2, highest}

// noIds may not be; some of them would, if they were cut to four bytes.
var noIds = []int{math.MinInt, math.MinInt + 1, -1 << 33, -1 << 32, -highest, -1 << 31, -256, -255, -2, -1, 0, 1 << 32, 1<<32 + 1, 1<<32 + 9, 1<<33 - 1, 1 << 33, math.MaxInt - 1, math.MaxInt}

// noKinds may not be; some of them would, if they were cut to a byte, or to four.
var noKinds = []int{math.MinInt, math.MinInt + 1, -1<<32 + 1, -256 + 1, -255, -8, -2, -1, 0, 9, 10, 16, 255, 256, 257, 264, 1 << 16, 1<<16 + 1, 1 << 32, 1<<32 + 1, 1<<32 + 8, math.MaxInt}

// sizes are how many may be asked for, and how many may be then.
var sizes = []struct{ asked, most int }{
	{math.MinInt, 1}, {-1<<32 + 5, 1}, {-1 << 32, 1}, {-33, 1}, {-32, 1}, {-2, 1}, {-1, 1}, {0, 1},
	{1, 1}, {2, 2}, {3, 3}, {8, 8}, {16, 16}, {31, 31}, {32, 32},
	{33, 32}, {34, 32}, {64, 32}, {255, 32}, {256, 32}, {257, 32}, {1 << 16, 32}, {1 << 32, 32}, {1<<32 + 5, 32}, {math.MaxInt, 32},
}

// one is an id and its kind.
type one struct{ id, kind int }

// words is what the chapter tells of a table: all that are there, in the order in which they were added.
type words struct {
	most int
	all  []one
}

// place is where an id stands, or -1.
func (w *words) place(id int) int {
	for i, o := range w.all {
		if o.id == id {
			return i
		}
	}
	return -1
}

func (w *words) add(id, kind int) api.Errno {
	switch {
	case id <= 0, id > highest, kind <= 0, kind > 8:
		return api.ErrArg
	case w.place(id) >= 0:
		return api.ErrExist
	case len(w.all) >= w.most:
		return api.ErrQuota
	}
	w.all = append(w.all, one{id, kind})
	return api.OK
}

func (w *words) kind(id int) int {
	if at := w.place(id); at >= 0 {
		return w.all[at].kind
	}
	return 0
}

func (w *words) find(id, kind int) api.Errno {
	switch at := w.place(id); {
	case at < 0:
		return api.ErrNone
	case w.all[at].kind != kind:
		return api.ErrRole
	}
	return api.OK
}

func (w *words) drop(id int) bool {
	at := w.place(id)
	if at < 0 {
		return false
	}
	w.all = slices.Concat(w.all[:at], w.all[at+1:])
	return true
}

// of puts each id where it belongs among those ahead of it.
func (w *words) of(kind int) []int {
	var l []int
	for _, o := range w.all {
		if o.kind != kind {
			continue
		}
		at := 0
		for at < len(l) && l[at] < o.id {
			at++
		}
		l = slices.Insert(l, at, o.id)
	}
	return l
}

// askedKinds are those that may be, and the others.
func askedKinds() []int {
	return append([]int{1, 2, 3, 4, 5, 6, 7, 8}, noKinds...)
}

// check asks a table all there is to ask, of the ids that are there, of those that are handed in, and of the odd ones.
func check(t *testing.T, where any, table *Table, w *words, more ...int) {
	t.Helper()
	if n := table.Len(); n != len(w.all) {
		t.Fatal(where, "len", n, len(w.all))
	}
	if n := table.Free(); n != w.most-len(w.all) {
		t.Fatal(where, "free", n, w.most-len(w.all))
	}
	kinds := askedKinds()
	for _, kind := range kinds {
		if l := table.Of(kind); !slices.Equal(l, w.of(kind)) {
			t.Fatal(where, "of", kind, l, w.of(kind))
		}
	}
	asked := slices.Concat(more, noIds)
	for _, o := range w.all {
		asked = append(asked, o.id)
	}
	for _, id := range asked {
		if kind := table.Kind(id); kind != w.kind(id) {
			t.Fatal(where, "kind of", id, kind, w.kind(id))
		}
		for _, kind := range kinds {
			if err := table.Find(id, kind); err != w.find(id, kind) {
				t.Fatal(where, "find", id, kind, err, w.find(id, kind))
			}
		}
	}
}

// both are a table and the chapter's words of it, which are told the same.
type both struct {
	table *Table
	words *words
}

// newBoth is of a number that is asked for, and of how many there may be then.
func newBoth(asked, most int) both {
	return both{New(asked), &words{most: most}}
}

func (b both) add(t *testing.T, id, kind int) api.Errno {
	t.Helper()
	err, want := b.table.Add(id, kind), b.words.add(id, kind)
	if err != want {
		t.Fatal("add", id, kind, err, want)
	}
	return err
}

func (b both) drop(t *testing.T, id int) bool {
	t.Helper()
	was, want := b.table.Drop(id), b.words.drop(id)
	if was != want {
		t.Fatal("drop", id, was, want)
	}
	return was
}

func (b both) check(t *testing.T, where any, more ...int) {
	t.Helper()
	check(t, where, b.table, b.words, more...)
}

// step is a row of numbers, the same for the same start.
type step struct{ now uint64 }

func (s *step) next(n int) int {
	s.now = s.now*6364136223846793005 + 1442695040888963407
	return int(s.now >> 33 % uint64(n))
}

// The chapter's own example, and what stands round it.
func TestExamples(t *testing.T) {
	table := New(2)
	for i, c := range []struct{ got, want api.Errno }{
		{table.Find(5, 1), api.ErrNone},
		{table.Add(5, 1), api.OK},
		{table.Find(5, 2), api.ErrRole},
		{table.Find(5, 1), api.OK},
		{table.Add(5, 2), api.ErrExist},
		{table.Add(4294967295, 8), api.OK},
		{table.Add(6, 1), api.ErrQuota},
		{table.Add(0, 1), api.ErrArg},
		{table.Find(6, 1), api.ErrNone},
	} {
		if c.got != c.want {
			t.Error(i, c.got, c.want)
		}
	}
	if table.Kind(5) != 1 || table.Kind(4294967295) != 8 || table.Kind(6) != 0 {
		t.Error("kind", table.Kind(5), table.Kind(4294967295), table.Kind(6))
	}
	if table.Len() != 2 || table.Free() != 0 {
		t.Error("len", table.Len(), table.Free())
	}
	if !slices.Equal(table.Of(1), []int{5}) || !slices.Equal(table.Of(8), []int{4294967295}) || len(table.Of(2)) != 0 {
		t.Error("of", table.Of(1), table.Of(8), table.Of(2))
	}
	if !table.Drop(5) || table.Drop(5) || table.Len() != 1 || table.Free() != 1 {
		t.Error("drop", table.Len(), table.Free())
	}
	if err := table.Find(5, 1); err != api.ErrNone {
		t.Error("find", err)
	}
}

func TestNewIsEmpty(t *testing.T) {
	for _, s := range sizes {
		b := newBoth(s.asked, s.most)
		b.check(t, s.asked, someIds...)
		for _, id := range slices.Concat(someIds, noIds) {
			if b.table.Drop(id) {
				t.Error("dropped", id)
			}
		}
		b.check(t, s.asked, someIds...)
	}
}

// Just so many may be added as may be there, and one more, when one is dropped.
func TestMost(t *testing.T) {
	for _, s := range sizes {
		b := newBoth(s.asked, s.most)
		for i := range s.most {
			if n := b.table.Free(); n != s.most-i {
				t.Fatal(s.asked, i, n)
			}
			if err := b.add(t, i*3+1, i%8+1); err != api.OK {
				t.Fatal(s.asked, i, err)
			}
		}
		b.check(t, s.asked, 2, 3, 97, 100, 1000)
		for _, id := range []int{2, 3, 97 * 3, 1000, highest} {
			if err := b.add(t, id, 1); err != api.ErrQuota {
				t.Fatal(s.asked, id, err)
			}
		}
		b.check(t, s.asked, 2, 3, 1000, highest)
		b.drop(t, 1)
		if err := b.add(t, 1000, 8); err != api.OK {
			t.Fatal(s.asked, err)
		}
		if err := b.add(t, 1001, 8); err != api.ErrQuota {
			t.Fatal(s.asked, err)
		}
		b.check(t, s.asked, 1, 1000, 1001)
	}
}

// Each id and each kind, those that may be and the others, of a table without ids.
func TestAddBounds(t *testing.T) {
	for _, id := range slices.Concat(someIds, noIds) {
		for _, kind := range askedKinds() {
			b := newBoth(32, 32)
			err := b.add(t, id, kind)
			if may := slices.Contains(someIds, id) && kind >= 1 && kind <= 8; may != (err == api.OK) {
				t.Fatal(id, kind, err)
			}
			b.check(t, one{id, kind}, id)
		}
	}
}

// Every kind is its own: an id of it is there of no other one.
func TestKindsApart(t *testing.T) {
	b := newBoth(32, 32)
	for kind := 1; kind <= 8; kind++ {
		b.add(t, 100-kind, kind)
		b.add(t, 200+kind, kind)
	}
	b.check(t, "kinds")
	for kind := 1; kind <= 8; kind++ {
		if l := b.table.Of(kind); !slices.Equal(l, []int{100 - kind, 200 + kind}) {
			t.Error(kind, l)
		}
		for other := 1; other <= 8; other++ {
			want := api.ErrRole
			if other == kind {
				want = api.OK
			}
			if err := b.table.Find(100-kind, other); err != want {
				t.Error(kind, other, err)
			}
		}
	}
}

// An id that is there is refused, whatever its kind is, and keeps the one that it has.
func TestExist(t *testing.T) {
	for is := 1; is <= 8; is++ {
		for kind := 1; kind <= 8; kind++ {
			b := newBoth(3, 3)
			b.add(t, 7, is)
			for range 4 {
				if err := b.add(t, 7, kind); err != api.ErrExist {
					t.Fatal(is, kind, err)
				}
			}
			b.check(t, one{is, kind}, 7)
			if b.table.Kind(7) != is {
				t.Fatal(is, kind, b.table.Kind(7))
			}
		}
	}
}

// Where several errors apply, the first one is told, and nothing is changed.
func TestFirst(t *testing.T) {
	full, room := newBoth(1, 1), newBoth(2, 2)
	full.add(t, 7, 1)
	room.add(t, 7, 1)
	for _, c := range []struct {
		id, kind   int
		full, room api.Errno
	}{
		{0, 0, api.ErrArg, api.ErrArg},
		{0, 1, api.ErrArg, api.ErrArg},
		{-1, 9, api.ErrArg, api.ErrArg},
		{1 << 32, 1, api.ErrArg, api.ErrArg},
		{1<<32 + 7, 1, api.ErrArg, api.ErrArg},
		{7, 0, api.ErrArg, api.ErrArg},
		{7, 9, api.ErrArg, api.ErrArg},
		{7, -1, api.ErrArg, api.ErrArg},
		{8, 0, api.ErrArg, api.ErrArg},
		{8, 9, api.ErrArg, api.ErrArg},
		{7, 1, api.ErrExist, api.ErrExist},
		{7, 2, api.ErrExist, api.ErrExist},
		{8, 2, api.ErrQuota, api.OK},
	} {
		if err := full.add(t, c.id, c.kind); err != c.full {
			t.Error(c, err)
		}
		full.check(t, c, 7, 8)
		if err := room.add(t, c.id, c.kind); err != c.room {
			t.Error(c, err)
		}
		room.check(t, c, 7, 8)
	}
	// An id that is not there is told ahead of a kind that is none.
	for _, kind := range noKinds {
		if err := full.table.Find(8, kind); err != api.ErrNone {
			t.Error(kind, err)
		}
		if err := full.table.Find(7, kind); err != api.ErrRole {
			t.Error(kind, err)
		}
	}
}

// What is not there is found of no kind, though another id is like it when it is cut to four bytes.
func TestWrapped(t *testing.T) {
	b := newBoth(32, 32)
	for _, id := range someIds {
		b.add(t, id, id%8+1)
	}
	var l []int
	for _, id := range someIds {
		l = append(l, id+1<<32, id-1<<32, -id, id+1<<33)
	}
	b.check(t, "wrapped", l...)
	for _, id := range l {
		if b.table.Drop(id) {
			t.Error(id)
		}
	}
	b.check(t, "dropped", l...)
}

func TestDrop(t *testing.T) {
	for _, id := range someIds {
		b := newBoth(32, 32)
		for _, other := range someIds {
			b.add(t, other, other%3+1)
		}
		if !b.drop(t, id) {
			t.Fatal(id)
		}
		b.check(t, id, someIds...)
		for range 3 {
			if b.drop(t, id) {
				t.Fatal("twice", id)
			}
		}
		b.check(t, id, someIds...)
		// It may be of another kind, when it is added again.
		if err := b.add(t, id, 8); err != api.OK {
			t.Fatal(id, err)
		}
		b.check(t, id, someIds...)
		if !b.drop(t, id) || b.drop(t, id) {
			t.Fatal("again", id)
		}
		b.check(t, id, someIds...)
	}
}

// What is dropped may be added again as often as one likes: none of it is counted still.
func TestDropMakesRoom(t *testing.T) {
	for _, s := range sizes {
		b := newBoth(s.asked, s.most)
		for id := 1; id <= s.most; id++ {
			b.add(t, id, 1)
		}
		for round := range 200 {
			id := round%s.most + 1
			if b.table.Free() != 0 || !b.drop(t, id) || b.table.Free() != 1 {
				t.Fatal(s.asked, round)
			}
			if b.add(t, id, round%8+1) != api.OK || b.add(t, 5000, 1) != api.ErrQuota {
				t.Fatal(s.asked, round)
			}
		}
		b.check(t, s.asked, 5000)
		for id := 1; id <= s.most; id++ {
			b.drop(t, id)
		}
		b.check(t, s.asked, 1, s.most)
		if b.table.Len() != 0 || b.table.Free() != s.most {
			t.Fatal(s.asked, b.table.Len(), b.table.Free())
		}
	}
}

// Ids rise as numbers, in whatever order they were added.
func TestRising(t *testing.T) {
	var s step
	for round := range 100 {
		l := slices.Clone(someIds)
		for i := range l {
			at := i + s.next(len(l)-i)
			l[i], l[at] = l[at], l[i]
		}
		b := newBoth(32, 32)
		for _, id := range l {
			b.add(t, id, 5)
		}
		if told := b.table.Of(5); !slices.Equal(told, someIds) {
			t.Fatal(round, told)
		}
		if told := b.table.Of(4); len(told) != 0 {
			t.Fatal(round, told)
		}
		// Those that are left rise still.
		half := l[:len(l)/2]
		for _, id := range half {
			b.drop(t, id)
		}
		var left []int
		for _, id := range someIds {
			if !slices.Contains(half, id) {
				left = append(left, id)
			}
		}
		if told := b.table.Of(5); !slices.Equal(told, left) {
			t.Fatal(round, told, left)
		}
	}
}

// The same table answers the same, however often it is asked: asking changes nothing, and no order of a map is told.
func TestSame(t *testing.T) {
	b := newBoth(32, 32)
	for i := range 32 {
		b.add(t, (i*37)%101+1, i%2+1)
	}
	first, second := b.table.Of(1), b.table.Of(2)
	for round := range 300 {
		if !slices.Equal(b.table.Of(1), first) || !slices.Equal(b.table.Of(2), second) {
			t.Fatal(round, b.table.Of(1), b.table.Of(2))
		}
	}
	b.check(t, "same")
}

// Ids of a kind that is none are none, though there are ids of all kinds, or none at all.
func TestOfNoKind(t *testing.T) {
	b := newBoth(32, 32)
	for round := range 2 {
		for _, kind := range noKinds {
			if l := b.table.Of(kind); len(l) != 0 {
				t.Error(round, kind, l)
			}
		}
		for id := 1; id <= 16; id++ {
			b.add(t, id, id%8+1)
		}
		// To ask of ids that are not there adds none.
		for id := 100; id < 120; id++ {
			b.table.Kind(id)
			b.table.Find(id, 1)
			b.table.Drop(id)
		}
	}
	b.check(t, "none", 100, 119)
}

// A list that was told is the caller's own.
func TestListsApart(t *testing.T) {
	b := newBoth(32, 32)
	for id := 1; id <= 11; id++ {
		b.add(t, id*10, 3)
	}
	first, second := b.table.Of(3), b.table.Of(3)
	for i := range first {
		first[i] = 7
	}
	spare := first[:cap(first)]
	for i := range spare {
		spare[i] = -1
	}
	_ = append(first[:2], 1, 2, 3)
	if !slices.Equal(second, b.words.of(3)) {
		t.Error("the second", second)
	}
	b.check(t, "changed", 7, 1, 2, 3)
	// Nor does the table change what it told.
	kept := slices.Clone(second)
	b.drop(t, 50)
	b.add(t, 55, 3)
	b.add(t, 5, 3)
	if !slices.Equal(second, kept) {
		t.Error("told", second, kept)
	}
	b.check(t, "more", 50, 55, 5)
}

// Two tables, told in turns, have nothing of one another.
func TestTwoTables(t *testing.T) {
	a, b := newBoth(32, 32), newBoth(4, 4)
	for i := range 40 {
		id := i*5%13 + 1
		a.add(t, id, i%8+1)
		b.add(t, id+1, (i+3)%8+1)
		if i%3 == 0 {
			a.drop(t, id+1)
			b.drop(t, id)
		}
		a.check(t, i, 1, 2, 13, 14)
		b.check(t, i, 1, 2, 13, 14)
	}
}

// Two that have the same ids answer the same, in whatever order they were told them, and whatever they were told between.
func TestOrderOfTelling(t *testing.T) {
	a, b := newBoth(9, 9), newBoth(9, 9)
	for id := 1; id <= 8; id++ {
		a.add(t, id, id)
	}
	for id := 8; id >= 1; id-- {
		b.add(t, 90, 1)
		b.add(t, id, id)
		b.drop(t, 90)
	}
	check(t, "a of b", a.table, b.words, 90)
	check(t, "b of a", b.table, a.words, 90)
}

// What is added is found, until it is dropped: every row of five steps with two ids and two kinds, at one and at two.
func TestEveryRow(t *testing.T) {
	steps := []func(t *testing.T, b both){
		func(t *testing.T, b both) { b.add(t, 1, 1) },
		func(t *testing.T, b both) { b.add(t, 1, 2) },
		func(t *testing.T, b both) { b.add(t, highest, 1) },
		func(t *testing.T, b both) { b.add(t, highest, 2) },
		func(t *testing.T, b both) { b.drop(t, 1) },
		func(t *testing.T, b both) { b.drop(t, highest) },
		func(t *testing.T, b both) { b.drop(t, 2) },
	}
	const long = 5
	rows := 1
	for range long {
		rows *= len(steps)
	}
	for most := 1; most <= 2; most++ {
		for row := range rows {
			b := newBoth(most, most)
			for rest, i := row, 0; i < long; rest, i = rest/len(steps), i+1 {
				steps[rest%len(steps)](t, b)
			}
			for _, id := range []int{1, 2, highest} {
				for kind := 1; kind <= 2; kind++ {
					if err := b.table.Find(id, kind); err != b.words.find(id, kind) {
						t.Fatal(most, row, id, kind, err)
					}
				}
			}
			if b.table.Len() != len(b.words.all) || b.table.Free() != most-len(b.words.all) {
				t.Fatal(most, row, b.table.Len(), b.table.Free())
			}
			if !slices.Equal(b.table.Of(1), b.words.of(1)) || !slices.Equal(b.table.Of(2), b.words.of(2)) {
				t.Fatal(most, row, b.table.Of(1), b.table.Of(2))
			}
		}
	}
}

// Long rows of steps, of tables of all sizes, with ids that may be and such as may not.
func TestSteps(t *testing.T) {
	for at, size := range sizes {
		s := step{uint64(at)}
		b := newBoth(size.asked, size.most)
		some := slices.Concat(someIds, []int{math.MinInt, -1, 0, 1 << 32, 1<<32 + 1, 1<<32 + 9})
		for i := 1; i <= 40; i++ {
			some = append(some, i*i*i*65537)
		}
		for i := range 2000 {
			id := some[s.next(len(some))]
			switch s.next(5) {
			case 0, 1, 2:
				b.add(t, id, s.next(10))
			case 3:
				b.drop(t, id)
			case 4:
				if len(b.words.all) > 0 {
					b.drop(t, b.words.all[s.next(len(b.words.all))].id)
				}
			}
			if kind := s.next(10); !slices.Equal(b.table.Of(kind), b.words.of(kind)) {
				t.Fatal(size, i, b.table.Of(kind), b.words.of(kind))
			}
			if b.table.Kind(id) != b.words.kind(id) || b.table.Len() != len(b.words.all) || b.table.Free() != size.most-len(b.words.all) {
				t.Fatal(size, i, id)
			}
			if i%100 == 0 {
				b.check(t, i, some...)
			}
		}
		b.check(t, size, some...)
	}
}

// Ever new ids are added and dropped: of those that are gone nothing is left.
func TestManyIds(t *testing.T) {
	b := newBoth(4, 4)
	for id := 1; id <= 50000; id++ {
		if err := b.add(t, id, id%8+1); err != api.OK {
			t.Fatal(id, err)
		}
		if id > 3 {
			b.drop(t, id-3)
		}
	}
	b.check(t, "many", 1, 2, 49996, 49997)
	if len(b.table.kinds) != 3 {
		t.Error("kept", len(b.table.kinds))
	}
}
