package event

import (
	"bytes"
	"fmt"
	"math"
	"slices"
	"testing"

	"rondel/api"
)

// bounds are of a number: from the one to the other.
type bounds struct{ least, most int }

// row is a line of the chapter's table: a name, and the bounds of its numbers.
type row struct {
	name    string
	numbers []bounds
}

// rows is the chapter's table.
var rows = []row{
	0: {"error", []bounds{{1, 12}, {0, 255}}},
	1: {"fatal", []bounds{{1, 12}}},
	2: {"release", nil},
	3: {"done", []bounds{{0, 4294967295}, {0, 4294967295}}},
	4: {"enter", []bounds{{-2147483648, 2147483647}, {-2147483648, 2147483647}}},
	5: {"leave", nil},
}

const enter = 4

// noKinds are numbers of no Kind: some would be one, if 128 more, or they, were cut to a byte, or to four.
var noKinds = []int{
	-1, -2, -6, -128, -127, -250, -256, 6, 7, 8, 127, 128, 129, 130, 133, 255, 256, 257, 261, 384, 1 << 16,
	1 << 32, 1<<32 + 3, -1 << 32, math.MinInt, math.MinInt + 128, math.MaxInt, math.MaxInt - 127,
}

// ids are such as may be, and others; 2^32 and more would be such as may be, if they were cut to four bytes.
var ids = []int{math.MinInt, -1 << 32, -4294967295, -1 << 31, -2, -1, 0, 1, 2, 255, 256, 1<<31 - 1, 1 << 31, 1<<32 - 2, 1<<32 - 1, 1 << 32, 1<<32 + 1, 1 << 33, math.MaxInt}

// ends are numbers round the bounds of all Kinds, and such as wrap round into them.
func ends() []int {
	l := []int{math.MinInt, math.MaxInt, 3, 100, 1<<32 + 5, -1<<32 + 5, 1<<33 + 1, 256 + 5}
	for _, n := range []int{1, 12, 255, 256, 1 << 31, 1 << 32} {
		l = append(l, n-1, n, n+1, -n-1, -n, -n+1)
	}
	return l
}

// four is a number's bytes.
func four(n int) []byte { return []byte{byte(n >> 24), byte(n >> 16), byte(n >> 8), byte(n)} }

// words is the bytes of numbers.
func words(l ...int) []byte {
	var b []byte
	for _, n := range l {
		b = append(b, four(n)...)
	}
	return b
}

// raw is the bytes of a message.
func raw(op, id int, body []byte) []byte {
	n := 7 + len(body)
	return slices.Concat([]byte{byte(n >> 8), byte(n), byte(op)}, four(id), body)
}

// bytesOf is the bytes of an event's message, whatever its numbers are.
func bytesOf(e Event) []byte {
	l := []int{e.A, e.B}
	return raw(128+e.Kind, e.Id, words(l[:len(rows[e.Kind].numbers)]...))
}

// unsigned is the number of four bytes.
func unsigned(b []byte) int {
	return ((int(b[0])*256+int(b[1]))*256+int(b[2]))*256 + int(b[3])
}

// mayBe is the chapter's words of an event.
func mayBe(e Event) bool {
	if e.Kind < 0 || e.Kind > 5 || e.Id < 0 || e.Id > 4294967295 {
		return false
	}
	numbers := rows[e.Kind].numbers
	for i, n := range []int{e.A, e.B} {
		switch {
		case i >= len(numbers):
			if n != 0 {
				return false
			}
		case n < numbers[i].least || n > numbers[i].most:
			return false
		}
	}
	return true
}

// written is what the chapter tells of Write.
func written(l []Event) ([]byte, api.Errno) {
	var b []byte
	for _, e := range l {
		if !mayBe(e) {
			return nil, api.ErrArg
		}
		b = append(b, bytesOf(e)...)
	}
	return b, api.OK
}

// decoded is what the chapter tells of one message.
func decoded(op, id int, body []byte) (Event, api.Errno) {
	if op < 128 || op > 133 {
		return Event{}, api.ErrOp
	}
	e := Event{Kind: op - 128, Id: id}
	n := len(rows[e.Kind].numbers)
	switch {
	case len(body) < 4*n:
		return Event{}, api.ErrShort
	case len(body) > 4*n:
		return Event{}, api.ErrForm
	}
	for i, to := range []*int{&e.A, &e.B}[:n] {
		*to = unsigned(body[4*i:])
		if e.Kind == enter && *to > 2147483647 {
			*to -= 4294967296
		}
	}
	if !mayBe(e) {
		return Event{}, api.ErrRange
	}
	return e, api.OK
}

// readable is what the chapter tells of Read.
func readable(b []byte) ([]Event, api.Errno) {
	var l []Event
	for len(b) > 0 {
		if len(b) < 2 {
			return nil, api.ErrShort
		}
		n := int(b[0])*256 + int(b[1])
		if n < 7 || n > 4103 {
			return nil, api.ErrForm
		}
		if n > len(b) {
			return nil, api.ErrShort
		}
		e, err := decoded(int(b[2]), unsigned(b[3:]), b[7:n])
		if err != api.OK {
			return nil, err
		}
		l = append(l, e)
		b = b[n:]
	}
	return l, api.OK
}

// brief is how a value looks, or how it begins to.
func brief(v any) string { return fmt.Sprintf("%.150s", fmt.Sprintf("%+v", v)) }

// checkOne holds May and Write of e alone against the chapter's words, and tells whether e may be.
func checkOne(t *testing.T, e Event) bool {
	t.Helper()
	want := mayBe(e)
	if May(e) != want {
		t.Fatalf("May(%+v): %v", e, !want)
	}
	checkWrite(t, e)
	return want
}

// checkWrite holds Write against the chapter's words, and tells what these tell.
func checkWrite(t *testing.T, l ...Event) api.Errno {
	t.Helper()
	want, wrong := written(l)
	if b, err := Write(l...); err != wrong || !bytes.Equal(b, want) {
		t.Fatalf("Write(%s): %s, %v, not %s, %v", brief(l), brief(b), err, brief(want), wrong)
	}
	return wrong
}

// checkRead holds Read against the chapter's words, and tells what these tell.
func checkRead(t *testing.T, b []byte) api.Errno {
	t.Helper()
	want, wrong := readable(b)
	if l, err := Read(b); err != wrong || !slices.Equal(l, want) {
		t.Fatalf("Read(%s): %s, %v, not %s, %v", brief(b), brief(l), err, brief(want), wrong)
	}
	return wrong
}

// right is an event of the Kind that may be.
func right(kind int) Event {
	e := Event{Kind: kind, Id: 5}
	switch len(rows[kind].numbers) {
	case 2:
		e.A, e.B = 3, 7
	case 1:
		e.A = 3
	}
	return e
}

// dice is a row of numbers that is the same each time.
type dice uint64

func (d *dice) roll(n int) int {
	*d = *d*6364136223846793005 + 1442695040888963407
	return int(uint64(*d) >> 33 % uint64(n))
}

func (d *dice) of(l ...int) int { return l[d.roll(len(l))] }

// number is one from least to most: often an end, or near one, or near 0.
func (d *dice) number(x bounds) int {
	far := x.least + 2*d.roll(1<<31) + d.roll(2)
	n := d.of(x.least, x.most, x.least+d.roll(10), x.most-d.roll(10), d.roll(10), x.least+d.roll(x.most-x.least+1), far)
	return min(max(n, x.least), x.most)
}

// event is one that may be.
func (d *dice) event() Event {
	e := Event{Kind: d.roll(6), Id: d.of(0, 1, 4294967295, d.roll(300), 2*d.roll(1<<31)+1)}
	for i, x := range rows[e.Kind].numbers {
		*[]*int{&e.A, &e.B}[i] = d.number(x)
	}
	return e
}

// odd is an event that may not be for the most part.
func (d *dice) odd() Event {
	e := d.event()
	switch l := ends(); d.roll(4) {
	case 0:
		e.Kind = d.of(noKinds...)
	case 1:
		e.Id = d.of(ids...)
	case 2:
		e.A = d.of(l...)
	case 3:
		e.B = d.of(l...)
	}
	return e
}

// P10.1: the table

func TestNumbers(t *testing.T) {
	for i, kind := range []int{Error, Fatal, Release, Done, Enter, Leave, Kinds} {
		if kind != i {
			t.Errorf("%d is %d", i, kind)
		}
	}
	if Kinds != len(rows) {
		t.Error(Kinds)
	}
}

// examples are events, their bytes and their texts.
var examples = []struct {
	e Event
	b []byte
	s string
}{
	{Event{Done, 3, 7, 1}, []byte{0, 15, 131, 0, 0, 0, 3, 0, 0, 0, 7, 0, 0, 0, 1}, "done 3 7 1"},
	{Event{Error, 1, 12, 18}, []byte{0, 15, 128, 0, 0, 0, 1, 0, 0, 0, 12, 0, 0, 0, 18}, "error 1 12 18"},
	{Event{Error, 0, 1, 0}, []byte{0, 15, 128, 0, 0, 0, 0, 0, 0, 0, 1, 0, 0, 0, 0}, "error 0 1 0"},
	{Event{Error, 4294967295, 2, 255}, []byte{0, 15, 128, 255, 255, 255, 255, 0, 0, 0, 2, 0, 0, 0, 255}, "error 4294967295 2 255"},
	{Event{Fatal, 256, 12, 0}, []byte{0, 11, 129, 0, 0, 1, 0, 0, 0, 0, 12}, "fatal 256 12"},
	{Event{Fatal, 0, 2, 0}, []byte{0, 11, 129, 0, 0, 0, 0, 0, 0, 0, 2}, "fatal 0 2"},
	{Event{Release, 9, 0, 0}, []byte{0, 7, 130, 0, 0, 0, 9}, "release 9"},
	{Event{Release, 0, 0, 0}, []byte{0, 7, 130, 0, 0, 0, 0}, "release 0"},
	{Event{Done, 2147483648, 4294967295, 2147483648}, []byte{0, 15, 131, 128, 0, 0, 0, 255, 255, 255, 255, 128, 0, 0, 0}, "done 2147483648 4294967295 2147483648"},
	{Event{Done, 0, 0, 0}, []byte{0, 15, 131, 0, 0, 0, 0, 0, 0, 0, 0, 0, 0, 0, 0}, "done 0 0 0"},
	{Event{Enter, 5, -1, 2}, []byte{0, 15, 132, 0, 0, 0, 5, 255, 255, 255, 255, 0, 0, 0, 2}, "enter 5 -1 2"},
	{Event{Enter, 5, 10, -300}, []byte{0, 15, 132, 0, 0, 0, 5, 0, 0, 0, 10, 255, 255, 254, 212}, "enter 5 10 -300"},
	{Event{Enter, 1, -2147483648, 2147483647}, []byte{0, 15, 132, 0, 0, 0, 1, 128, 0, 0, 0, 127, 255, 255, 255}, "enter 1 -2147483648 2147483647"},
	{Event{Leave, 16909060, 0, 0}, []byte{0, 7, 133, 1, 2, 3, 4}, "leave 16909060"},
}

func TestExamples(t *testing.T) {
	var all []byte
	var events []Event
	for _, x := range examples {
		if !May(x.e) {
			t.Errorf("May(%v)", x.e)
		}
		if b, err := Write(x.e); err != api.OK || !bytes.Equal(b, x.b) {
			t.Errorf("Write(%v): %v, %v", x.e, b, err)
		}
		if l, err := Read(x.b); err != api.OK || !slices.Equal(l, []Event{x.e}) {
			t.Errorf("Read(%v): %v, %v", x.b, l, err)
		}
		if s := Show(x.e); s != x.s {
			t.Errorf("Show(%v): %q", x.e, s)
		}
		all = append(all, x.b...)
		events = append(events, x.e)
		if b, err := Write(events...); err != api.OK || !bytes.Equal(b, all) {
			t.Errorf("%d events: %v, %v", len(events), b, err)
		}
		if l, err := Read(all); err != api.OK || !slices.Equal(l, events) {
			t.Errorf("%d events: %v, %v", len(events), l, err)
		}
	}
}

// P10.1: May

func TestNoKinds(t *testing.T) {
	for _, kind := range noKinds {
		for _, e := range []Event{{}, {Id: 1}, {A: 1, B: 1}, {A: 1}, {Id: -1, A: -1, B: 1 << 40}} {
			e.Kind = kind
			if May(e) {
				t.Errorf("May(%v)", e)
			}
			if b, err := Write(e); err != api.ErrArg || len(b) != 0 {
				t.Errorf("Write(%v): %v, %v", e, b, err)
			}
			if s := Show(e); s != "" {
				t.Errorf("Show(%v): %q", e, s)
			}
		}
	}
}

// TestIds: 0 may be, whatever the Kind is.
func TestIds(t *testing.T) {
	for kind := range rows {
		for _, id := range ids {
			e := right(kind)
			e.Id = id
			if may := id >= 0 && id <= 4294967295; checkOne(t, e) != may || May(e) != may {
				t.Error(e)
			}
		}
	}
}

// TestErrors has all numbers of errors, and all Ops, and some beyond.
func TestErrors(t *testing.T) {
	for n := -300; n <= 300; n++ {
		may := n >= 1 && n <= 12
		if May(Event{Kind: Fatal, Id: 1, A: n}) != may || May(Event{Kind: Error, Id: 1, A: n, B: 3}) != may {
			t.Error(n)
		}
		if op := n >= 0 && n <= 255; May(Event{Kind: Error, Id: 1, A: 5, B: n}) != op {
			t.Error(n)
		}
	}
	for n := -1; n <= 13; n++ {
		checkOne(t, Event{Kind: Fatal, Id: 1, A: n})
		for op := -1; op <= 256; op++ {
			checkOne(t, Event{Kind: Error, Id: 1, A: n, B: op})
		}
	}
}

// TestBounds has the bounds written out: what is at them may be, what is beyond may not.
func TestBounds(t *testing.T) {
	for _, x := range []struct {
		kind, least, most int
		of                func(e *Event) *int
	}{
		{Error, 1, 12, func(e *Event) *int { return &e.A }},
		{Error, 0, 255, func(e *Event) *int { return &e.B }},
		{Fatal, 1, 12, func(e *Event) *int { return &e.A }},
		{Fatal, 0, 0, func(e *Event) *int { return &e.B }},
		{Release, 0, 0, func(e *Event) *int { return &e.A }},
		{Release, 0, 0, func(e *Event) *int { return &e.B }},
		{Done, 0, 4294967295, func(e *Event) *int { return &e.A }},
		{Done, 0, 4294967295, func(e *Event) *int { return &e.B }},
		{Enter, -2147483648, 2147483647, func(e *Event) *int { return &e.A }},
		{Enter, -2147483648, 2147483647, func(e *Event) *int { return &e.B }},
		{Leave, 0, 0, func(e *Event) *int { return &e.A }},
		{Leave, 0, 0, func(e *Event) *int { return &e.B }},
	} {
		e := right(x.kind)
		for n, may := range map[int]bool{x.least - 1: false, x.least: true, x.most: true, x.most + 1: false, math.MinInt: false, math.MaxInt: false} {
			*x.of(&e) = n
			if May(e) != may {
				t.Errorf("May(%v): %v", e, !may)
			}
			if b, err := Write(e); may != (err == api.OK) || !may && (err != api.ErrArg || len(b) != 0) {
				t.Errorf("Write(%v): %v, %v", e, b, err)
			}
		}
	}
}

// TestPairs has all numbers round the bounds, each with each.
func TestPairs(t *testing.T) {
	for kind := range rows {
		for _, a := range ends() {
			for _, b := range ends() {
				for _, id := range []int{-1, 0, 5} {
					checkOne(t, Event{kind, id, a, b})
				}
			}
		}
	}
}

// P10.1: Write

func TestWriteNone(t *testing.T) {
	for _, l := range [][]Event{nil, {}, make([]Event, 0, 5)} {
		if b, err := Write(l...); err != api.OK || len(b) != 0 {
			t.Error(b, err)
		}
	}
	if b, err := Write(); err != api.OK || len(b) != 0 {
		t.Error(b, err)
	}
}

// TestWriteOfOne puts one that may not be at each place of a row.
func TestWriteOfOne(t *testing.T) {
	var all []Event
	for _, x := range examples {
		all = append(all, x.e)
	}
	wrong := []Event{{Kind: 6}, {Kind: -1}, {Kind: Leave, Id: -1}, {Kind: Leave, A: 1}, {Kind: Fatal, Id: 1}, {Kind: Fatal, A: 1, B: 1}, {}, {Kind: Error, A: 13}, {Kind: Done, A: -1}, {Kind: Enter, B: 1 << 31}}
	for place := range len(all) + 1 {
		for _, e := range wrong {
			l := slices.Insert(slices.Clone(all), place, e)
			if b, err := Write(l...); err != api.ErrArg || len(b) != 0 {
				t.Error(place, e, b, err)
			}
		}
	}
}

func TestWriteMany(t *testing.T) {
	d := dice(101)
	told := [13]int{}
	for range 20000 {
		var l []Event
		for range d.roll(8) {
			e := d.event()
			if d.roll(10) == 0 {
				e = d.odd()
			}
			l = append(l, e)
		}
		told[checkWrite(t, l...)]++
	}
	if told[api.OK] < 5000 || told[api.ErrArg] < 3000 {
		t.Error(told)
	}
}

// P10.1: Read

func TestReadNone(t *testing.T) {
	for _, b := range [][]byte{nil, {}, make([]byte, 0, 9)} {
		if l, err := Read(b); err != api.OK || len(l) != 0 {
			t.Error(l, err)
		}
	}
}

// TestReadOps has each Op, with bodies of each length.
func TestReadOps(t *testing.T) {
	for op := range 256 {
		size := -1
		if op >= 128 && op <= 133 {
			size = 4 * len(rows[op-128].numbers)
		}
		for n := range 40 {
			want := api.ErrOp
			switch {
			case size < 0:
			case n < size:
				want = api.ErrShort
			case n > size:
				want = api.ErrForm
			default:
				want = api.OK
			}
			body := words(1, 2, 3, 4, 5, 6, 7, 8, 9, 10)[:n]
			for _, id := range []int{0, 1, 4294967295} {
				b := raw(op, id, body)
				if l, err := Read(b); err != want || err != api.OK && len(l) != 0 {
					t.Error(op, n, l, err)
				}
				checkRead(t, b)
			}
		}
	}
}

// TestReadNumbers has numbers that may be, and others, as their bytes.
func TestReadNumbers(t *testing.T) {
	l := []int{0, 1, 2, 11, 12, 13, 14, 100, 254, 255, 256, 257, 65536, 1<<31 - 1, 1 << 31, 1<<31 + 1, 1<<32 - 2, 1<<32 - 1}
	for kind := range rows {
		for _, a := range l {
			for _, b := range l {
				body := words(a, b)[:4*len(rows[kind].numbers)]
				for _, id := range []int{0, 7} {
					err := checkRead(t, raw(128+kind, id, body))
					if err == api.ErrRange && kind != Error && kind != Fatal || err != api.ErrRange && err != api.OK {
						t.Error(kind, a, b, err)
					}
				}
			}
		}
	}
	for n := range 14 {
		want := api.ErrRange
		if n >= 1 && n <= 12 {
			want = api.OK
		}
		if l, err := Read(raw(129, 1, words(n))); err != want || (len(l) == 1) != (want == api.OK) {
			t.Error(n, l, err)
		}
		for _, op := range []int{0, 255} {
			if l, err := Read(raw(128, 1, words(n, op))); err != want || (len(l) == 1) != (want == api.OK) {
				t.Error(n, l, err)
			}
		}
		if l, err := Read(raw(128, 1, words(n, 256))); err != api.ErrRange || len(l) != 0 {
			t.Error(n, l, err)
		}
	}
}

// TestReadCutOff cuts bytes off at each place.
func TestReadCutOff(t *testing.T) {
	var all []byte
	whole := map[int]int{}
	for i, x := range examples {
		whole[len(all)] = i
		all = append(all, x.b...)
	}
	for at := range all {
		n, want := 0, api.ErrShort
		if i, ok := whole[at]; ok {
			n, want = i, api.OK
		}
		if l, err := Read(all[:at]); err != want || len(l) != n {
			t.Error(at, len(l), err)
		}
		checkRead(t, all[:at])
	}
}

// wrong are bytes that are no event's, each with its error: several errors are true of some.
var wrong = []struct {
	b    []byte
	want api.Errno
}{
	{[]byte{0, 7, 134, 0, 0, 0, 1}, api.ErrOp},
	{[]byte{0, 7, 127, 0, 0, 0, 1}, api.ErrOp},
	{[]byte{0, 7, 0, 0, 0, 0, 1}, api.ErrOp},
	{[]byte{0, 9, 255, 0, 0, 0, 0, 1, 2}, api.ErrOp},
	{[]byte{0, 7, 128, 0, 0, 0, 1}, api.ErrShort},
	{[]byte{0, 11, 128, 0, 0, 0, 1, 0, 0, 0, 13}, api.ErrShort},
	{[]byte{0, 10, 129, 0, 0, 0, 1, 0, 0, 0}, api.ErrShort},
	{[]byte{0, 14, 131, 0, 0, 0, 1, 0, 0, 0, 0, 0, 0, 0}, api.ErrShort},
	{[]byte{0, 8, 132, 0, 0, 0, 1, 0}, api.ErrShort},
	{[]byte{0, 12, 129, 0, 0, 0, 1, 0, 0, 0, 13, 0}, api.ErrForm},
	{[]byte{0, 15, 129, 0, 0, 0, 1, 0, 0, 0, 1, 0, 0, 0, 1}, api.ErrForm},
	{[]byte{0, 8, 130, 0, 0, 0, 1, 0}, api.ErrForm},
	{[]byte{0, 11, 133, 0, 0, 0, 1, 0, 0, 0, 0}, api.ErrForm},
	{[]byte{0, 16, 132, 0, 0, 0, 1, 0, 0, 0, 0, 0, 0, 0, 0, 0}, api.ErrForm},
	{[]byte{0, 11, 129, 0, 0, 0, 1, 0, 0, 0, 0}, api.ErrRange},
	{[]byte{0, 11, 129, 0, 0, 0, 1, 1, 0, 0, 1}, api.ErrRange},
	{[]byte{0, 15, 128, 0, 0, 0, 1, 0, 0, 0, 13, 0, 0, 0, 1}, api.ErrRange},
	{[]byte{0, 15, 128, 0, 0, 0, 1, 0, 0, 0, 1, 0, 0, 1, 0}, api.ErrRange},
}

// breaks are bytes that Split tells an error of, if they are all that is left; the first also of what stands behind it.
var breaks = []struct {
	b    []byte
	want api.Errno
}{
	{[]byte{0, 6, 130, 0, 0, 0, 1}, api.ErrForm},
	{[]byte{16, 8, 130, 0, 0, 0, 1}, api.ErrForm},
	{[]byte{0, 0}, api.ErrForm},
	{[]byte{255, 255}, api.ErrForm},
	{[]byte{0}, api.ErrShort},
	{[]byte{0, 7}, api.ErrShort},
	{[]byte{0, 7, 134, 0, 0, 0}, api.ErrShort},
	{[]byte{16, 7, 134, 0, 0, 0, 1}, api.ErrShort},
}

// TestReadFirst puts what is wrong in the midst, and more of it behind: of all the first is told, and no event.
func TestReadFirst(t *testing.T) {
	check := func(want api.Errno, parts ...[]byte) {
		t.Helper()
		b := slices.Concat(parts...)
		if l, err := Read(b); err != want || len(l) != 0 {
			t.Errorf("Read(%v): %v, %v, not %v", b, l, err, want)
		}
		checkRead(t, b)
	}
	var ahead []byte
	for _, x := range examples {
		for _, w := range wrong {
			check(w.want, ahead, w.b)
			check(w.want, ahead, w.b, x.b)
			for _, v := range wrong {
				check(w.want, ahead, w.b, x.b, v.b)
			}
			for _, v := range breaks {
				check(w.want, ahead, w.b, v.b)
				check(w.want, ahead, w.b, x.b, v.b)
			}
		}
		for _, v := range breaks {
			check(v.want, ahead, v.b)
		}
		for _, w := range wrong {
			check(api.ErrForm, ahead, breaks[0].b, w.b)
		}
		ahead = append(ahead, x.b...)
	}
}

func TestReadMany(t *testing.T) {
	d := dice(102)
	told := [13]int{}
	for range 40000 {
		var b []byte
		for range d.roll(8) {
			b = append(b, bytesOf(d.event())...)
		}
		switch d.roll(4) {
		case 0:
			b = b[:d.roll(len(b)+1)]
		case 1:
			if len(b) > 0 {
				b[d.roll(len(b))] = byte(d.of(d.roll(20), 126+d.roll(10), d.roll(256)))
			}
		case 2:
			b = append(b, wrong[d.roll(len(wrong))].b...)
		}
		told[checkRead(t, b)]++
	}
	for _, e := range []api.Errno{api.OK, api.ErrOp, api.ErrShort, api.ErrForm, api.ErrRange} {
		if told[e] < 500 {
			t.Error(e, told[e])
		}
	}
}

// TestReadLong has messages as long as they may be, and longer.
func TestReadLong(t *testing.T) {
	for kind := range rows {
		if l, err := Read(slices.Concat(bytesOf(right(kind)), raw(128+kind, 1, make([]byte, 4096)))); err != api.ErrForm || len(l) != 0 {
			t.Error(kind, l, err)
		}
	}
	if l, err := Read(raw(134, 1, make([]byte, 4096))); err != api.ErrOp || len(l) != 0 {
		t.Error(l, err)
	}
	if l, err := Read(raw(134, 1, make([]byte, 4097))); err != api.ErrForm || len(l) != 0 {
		t.Error(l, err)
	}
}

// P10.2: Show

// shown is what the chapter tells of Show.
func shown(e Event) string {
	if e.Kind < 0 || e.Kind > 5 {
		return ""
	}
	s := fmt.Sprintf("%s %d", rows[e.Kind].name, e.Id)
	for _, n := range []int{e.A, e.B}[:len(rows[e.Kind].numbers)] {
		s += fmt.Sprintf(" %d", n)
	}
	return s
}

// TestShow has events that may be, and others of a Kind, too.
func TestShow(t *testing.T) {
	for _, x := range []struct {
		e    Event
		want string
	}{
		{Event{0, 1, 2, 3}, "error 1 2 3"},
		{Event{1, 1, 2, 3}, "fatal 1 2"},
		{Event{2, 1, 2, 3}, "release 1"},
		{Event{3, 1, 2, 3}, "done 1 2 3"},
		{Event{4, 1, 2, 3}, "enter 1 2 3"},
		{Event{5, 1, 2, 3}, "leave 1"},
		{Event{6, 1, 2, 3}, ""},
		{Event{-1, 1, 2, 3}, ""},
		{Event{}, "error 0 0 0"},
		{Event{4, -10, -20, 0}, "enter -10 -20 0"},
		{Event{3, math.MaxInt, math.MinInt, -1}, "done 9223372036854775807 -9223372036854775808 -1"},
	} {
		if s := Show(x.e); s != x.want {
			t.Errorf("Show(%v): %q", x.e, s)
		}
	}
	d := dice(103)
	for i := range 20000 {
		e := d.event()
		if i%2 == 0 {
			e = d.odd()
		}
		if s := Show(e); s != shown(e) {
			t.Fatalf("Show(%v): %q", e, s)
		}
	}
}

// P10.2: Count

func TestCount(t *testing.T) {
	l := []Event{{Kind: 2, Id: 1}, {Kind: 3, A: 2}, {Kind: 2, Id: 9}, {Kind: 0, A: 5, B: 1}, {Kind: 2, Id: 1}, {Kind: 3, A: 2}}
	for kind, want := range map[int]int{0: 1, 1: 0, 2: 3, 3: 2, 4: 0, 5: 0, 6: 0, -1: 0, 128: 0, 130: 0, 258: 0, math.MinInt: 0, math.MaxInt: 0} {
		if n := Count(l, kind); n != want {
			t.Errorf("Count(%d): %d", kind, n)
		}
		if Count(nil, kind) != 0 || Count([]Event{}, kind) != 0 || Count(l[:0], kind) != 0 {
			t.Errorf("Count(%d) of none", kind)
		}
	}
	for n := range l {
		if got := Count(l[n:], 2) + Count(l[:n], 2); got != 3 {
			t.Error(n, got)
		}
	}
	if n := Count([]Event{{Kind: 2, Id: -1, A: 7, B: -7}, {Kind: 2}, {Kind: 1}}, 2); n != 2 {
		t.Error(n)
	}
}

func TestCountMany(t *testing.T) {
	d := dice(104)
	for range 2000 {
		var l []Event
		var want [6]int
		for range d.roll(30) {
			l = append(l, d.event())
			want[l[len(l)-1].Kind]++
		}
		for kind, n := range want {
			if got := Count(l, kind); got != n {
				t.Fatalf("Count(%v, %d): %d", l, kind, got)
			}
		}
	}
}

// P10.3

func TestWrittenIsRead(t *testing.T) {
	d := dice(105)
	var kinds [6]int
	for range 20000 {
		var l []Event
		for range d.roll(12) {
			l = append(l, d.event())
			kinds[l[len(l)-1].Kind]++
		}
		b, err := Write(l...)
		if err != api.OK {
			t.Fatalf("Write(%s): %v", brief(l), err)
		}
		if got, err := Read(b); err != api.OK || !slices.Equal(got, l) {
			t.Fatalf("%s: %s, %v", brief(l), brief(got), err)
		}
	}
	if slices.Min(kinds[:]) < 1000 {
		t.Error(kinds)
	}
}

// TestReadIsWritten: what is read is written as it was.
func TestReadIsWritten(t *testing.T) {
	d := dice(106)
	right := 0
	for range 60000 {
		kind := d.roll(6)
		var body []byte
		for range 4 * len(rows[kind].numbers) {
			body = append(body, byte(d.of(0, 0, 0, d.roll(14), d.roll(256))))
		}
		b := raw(128+kind, d.of(d.roll(9), d.roll(1<<31), 4294967295), body)
		b = append(b, b...)
		l, err := Read(b)
		if err != api.OK {
			continue
		}
		right++
		if got, err := Write(l...); err != api.OK || len(l) != 2 || !bytes.Equal(got, b) {
			t.Fatalf("%v: %v, %v", b, got, err)
		}
	}
	if right < 30000 {
		t.Error(right)
	}
}

func TestWriteLong(t *testing.T) {
	l := slices.Repeat([]Event{right(Done), right(Leave), right(Enter)}, 3000)
	b, err := Write(l...)
	if err != api.OK || len(b) != 3000*37 {
		t.Fatal(len(b), err)
	}
	if got, err := Read(b); err != api.OK || !slices.Equal(got, l) {
		t.Fatal(len(got), err)
	}
}

// R4

// TestHandedIn looks whether what is handed in stays as it is, its spare room too, and whether it is shared.
func TestHandedIn(t *testing.T) {
	room := bytes.Repeat([]byte{0xee}, 80)
	given := append(append(room[:0], bytesOf(right(Done))...), bytesOf(right(Leave))...)
	before := bytes.Clone(room)
	l, err := Read(given)
	if err != api.OK || !bytes.Equal(room, before) {
		t.Fatal(err, room)
	}
	if _, err := Read(given[:len(given)-1]); err != api.ErrShort || !bytes.Equal(room, before) {
		t.Fatal(err, room)
	}
	clear(room)
	if !slices.Equal(l, []Event{right(Done), right(Leave)}) {
		t.Error(l)
	}

	events := slices.Repeat([]Event{{9, 9, 9, 9}}, 8)
	copy(events, []Event{right(Fatal), right(Enter)})
	kept := slices.Clone(events)
	b, err := Write(events[:2]...)
	Count(events[:2], Fatal)
	if err != api.OK || !slices.Equal(events, kept) {
		t.Fatal(err, events)
	}
	clear(events)
	if !bytes.Equal(b, slices.Concat(bytesOf(right(Fatal)), bytesOf(right(Enter)))) {
		t.Error(b)
	}
}

// TestNewEachTime: an answer is not changed by what is asked then, nor by what is done to another one, its spare room too.
func TestNewEachTime(t *testing.T) {
	for kind := range rows {
		b, _ := Write(right(kind))
		other, _ := Write(right(Enter), right(Fatal))
		other = other[:cap(other)]
		for i := range other {
			other[i] = 77
		}
		if !bytes.Equal(b, bytesOf(right(kind))) {
			t.Error(kind, b)
		}
		l, _ := Read(b)
		others, _ := Read(slices.Concat(b, bytesOf(right(Leave))))
		others = others[:cap(others)]
		clear(others)
		if !slices.Equal(l, []Event{right(kind)}) {
			t.Error(kind, l)
		}
		checkWrite(t, right(kind), right(Done))
		checkRead(t, b)
	}
}
