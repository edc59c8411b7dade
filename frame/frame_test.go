package frame

import (
	"bytes"
	"math"
	"slices"
	"testing"

	"rondel/api"
)

// body is n bytes, none of which is like its neighbours.
func body(n int) []byte {
	b := make([]byte, n)
	for i := range b {
		b[i] = byte(i*7 + n)
	}
	return b
}

// bytesOf is the chapter's words.
func bytesOf(m api.Message) []byte {
	n := 7 + len(m.Body)
	b := []byte{byte(n / 256), byte(n % 256), byte(m.Op)}
	for _, part := range []int{1 << 24, 1 << 16, 1 << 8, 1} {
		b = append(b, byte(m.Id/part%256))
	}
	return append(b, m.Body...)
}

// told is what the chapter tells of a row of bytes.
type told struct {
	ms     []api.Message
	n      int // how many bytes are of messages
	short  bool
	broken bool
}

// read goes through the bytes one by one, as they come, and looks at no more of them than have come.
func read(b []byte) told {
	var t told
	var now []byte
	for _, x := range b {
		now = append(now, x)
		if len(now) < 2 {
			continue
		}
		n := 256*int(now[0]) + int(now[1])
		if n < 7 || n > 4103 {
			t.broken = true
			return t
		}
		if len(now) == n {
			id := ((int(now[3])*256+int(now[4]))*256+int(now[5]))*256 + int(now[6])
			t.ms = append(t.ms, api.Message{Op: int(now[2]), Id: id, Body: slices.Clone(now[7:])})
			t.n += n
			now = nil
		}
	}
	t.short = len(now) > 0
	return t
}

// wrong is the error of what is behind the messages.
func (t told) wrong() api.Errno {
	switch {
	case t.broken:
		return api.ErrForm
	case t.short:
		return api.ErrShort
	}
	return api.OK
}

func equal(a, b api.Message) bool {
	return a.Op == b.Op && a.Id == b.Id && slices.Equal(a.Body, b.Body)
}

func equalAll(a, b []api.Message) bool { return slices.EqualFunc(a, b, equal) }

// dice is a row of numbers that is the same each time.
type dice uint64

func (d *dice) roll(n int) int {
	*d = *d*6364136223846793005 + 1442695040888963407
	return int(uint64(*d) >> 33 % uint64(n))
}

// message is one that may be; its body is long now and then.
func (d *dice) message() api.Message {
	n := d.roll(9)
	switch d.roll(20) {
	case 0:
		n = api.MaxBody - d.roll(3)
	case 1:
		n = 240 + d.roll(20)
	}
	m := api.Message{Op: d.roll(256), Id: d.roll(1 << 32), Body: make([]byte, n)}
	for i := range m.Body {
		// Many of them look like lengths.
		m.Body[i] = byte(d.roll(256) >> d.roll(9))
	}
	return m
}

// row is the bytes of messages, now and then cut off, and with bytes between that may break.
func (d *dice) row() []byte {
	var b []byte
	for range d.roll(8) {
		b = append(b, bytesOf(d.message())...)
	}
	switch d.roll(4) {
	case 0:
		b = b[:len(b)-d.roll(len(b)+1)]
	case 1:
		b = append(b, 0, byte(d.roll(7)))
		b = append(b, bytesOf(d.message())...)
	case 2:
		at := d.roll(len(b) + 1)
		b = slices.Insert(b, at, byte(d.roll(256)), byte(d.roll(256)))
	}
	return b
}

// rows is such bytes, many times over, and all of one and of two bytes that begin one.
func rows() [][]byte {
	l := [][]byte{nil, {}, {0}, {16}, {255}}
	for a := range 256 {
		for _, c := range []byte{0, 1, 6, 7, 8, 255} {
			l = append(l, []byte{byte(a), c}, []byte{0, 7, 1, 2, 3, 4, 5, byte(a), c, 9})
		}
	}
	d := dice(7)
	for range 400 {
		l = append(l, d.row())
	}
	return l
}

// P7.1

func TestMayAndWrite(t *testing.T) {
	for i, x := range []struct {
		m    api.Message
		want bool
	}{
		{api.Message{}, true},
		{api.Message{Op: 3, Id: 1, Body: []byte{9}}, true},
		{api.Message{Op: 1}, true},
		{api.Message{Op: 255}, true},
		{api.Message{Op: 256}, false},
		{api.Message{Op: 257}, false},
		{api.Message{Op: -1}, false},
		{api.Message{Op: math.MaxInt}, false},
		{api.Message{Op: math.MinInt}, false},
		{api.Message{Id: 0x01020304}, true},
		{api.Message{Id: 1<<31 - 1}, true},
		{api.Message{Id: 1 << 31}, true},
		{api.Message{Id: 1<<32 - 1}, true},
		{api.Message{Id: 1 << 32}, false},
		{api.Message{Id: 1<<32 + 1}, false},
		{api.Message{Id: -1}, false},
		{api.Message{Id: math.MaxInt}, false},
		{api.Message{Id: math.MinInt}, false},
		{api.Message{Body: []byte{}}, true},
		{api.Message{Body: body(248)}, true},
		{api.Message{Body: body(249)}, true},
		{api.Message{Body: body(4095)}, true},
		{api.Message{Op: 255, Id: 1<<32 - 1, Body: body(4096)}, true},
		{api.Message{Body: body(4097)}, false},
		{api.Message{Op: 1, Id: 1, Body: body(70000)}, false},
		{api.Message{Op: -1, Id: -1, Body: body(70000)}, false},
	} {
		if got := May(x.m); got != x.want {
			t.Errorf("%d: May: %v", i, got)
		}
		b, err := Write(x.m)
		if x.want && (err != api.OK || !slices.Equal(b, bytesOf(x.m))) {
			t.Errorf("%d: Write: %v, %v", i, b, err)
		}
		if !x.want && (err != api.ErrArg || len(b) != 0) {
			t.Errorf("%d: Write: %v, %v", i, b, err)
		}
	}
}

func TestWriteExamples(t *testing.T) {
	for i, x := range []struct {
		m    api.Message
		want []byte
	}{
		{api.Message{Op: 3, Id: 1, Body: []byte{9}}, []byte{0, 8, 3, 0, 0, 0, 1, 9}},
		{api.Message{}, []byte{0, 7, 0, 0, 0, 0, 0}},
		{api.Message{Op: 255, Id: 0x01020304}, []byte{0, 7, 255, 1, 2, 3, 4}},
		{api.Message{Op: 128, Id: 1<<32 - 2, Body: []byte{0, 255}}, []byte{0, 9, 128, 255, 255, 255, 254, 0, 255}},
	} {
		if b, err := Write(x.m); err != api.OK || !slices.Equal(b, x.want) {
			t.Errorf("%d: %v, %v", i, b, err)
		}
	}
	for n, want := range map[int][2]byte{248: {0, 255}, 249: {1, 0}, 4096: {16, 7}} {
		if b, err := Write(api.Message{Body: body(n)}); err != api.OK || len(b) != 7+n || [2]byte(b) != want {
			t.Errorf("%d bytes: %d of them, %v", n, len(b), err)
		}
	}
}

func TestRead(t *testing.T) {
	long := bytesOf(api.Message{Op: 9, Id: 8, Body: body(4096)})
	for i, x := range []struct {
		b    []byte
		m    api.Message
		n    int
		want api.Errno
	}{
		{[]byte{0, 8, 3, 0, 0, 0, 1, 9}, api.Message{Op: 3, Id: 1, Body: []byte{9}}, 8, api.OK},
		{[]byte{0, 8, 3, 0, 0, 0, 1, 9, 0, 0}, api.Message{Op: 3, Id: 1, Body: []byte{9}}, 8, api.OK},
		{[]byte{0, 7, 255, 1, 2, 3, 4}, api.Message{Op: 255, Id: 0x01020304}, 7, api.OK},
		{[]byte{0, 7, 0, 255, 255, 255, 255, 7}, api.Message{Id: 1<<32 - 1}, 7, api.OK},
		{nil, api.Message{}, 0, api.ErrShort},
		{[]byte{}, api.Message{}, 0, api.ErrShort},
		{[]byte{0}, api.Message{}, 0, api.ErrShort},
		{[]byte{255}, api.Message{}, 0, api.ErrShort},
		{[]byte{0, 7}, api.Message{}, 0, api.ErrShort},
		{[]byte{0, 8, 3, 0, 0, 0, 1}, api.Message{}, 0, api.ErrShort},
		{[]byte{0, 7, 3, 0, 0, 0}, api.Message{}, 0, api.ErrShort},
		{[]byte{0, 0}, api.Message{}, 0, api.ErrForm},
		{[]byte{0, 6}, api.Message{}, 0, api.ErrForm},
		{[]byte{0, 6, 3, 0, 0, 0, 1}, api.Message{}, 0, api.ErrForm},
		{[]byte{16, 7}, api.Message{}, 0, api.ErrShort},
		{[]byte{16, 8}, api.Message{}, 0, api.ErrForm},
		{[]byte{255, 255}, api.Message{}, 0, api.ErrForm},
		{[]byte{7, 0}, api.Message{}, 0, api.ErrShort},
		{long, api.Message{Op: 9, Id: 8, Body: body(4096)}, 4103, api.OK},
		{long[:4102], api.Message{}, 0, api.ErrShort},
		{append([]byte{16, 8}, body(5000)...), api.Message{}, 0, api.ErrForm},
	} {
		m, n, err := Read(x.b)
		if !equal(m, x.m) || n != x.n || err != x.want {
			t.Errorf("%d: %v, %d, %v", i, m, n, err)
		}
	}
}

// TestReadEachLength asks of every length, of bytes that are too few, just so many, and more.
func TestReadEachLength(t *testing.T) {
	all := body(5000)
	for n := range 1 << 16 {
		all[0], all[1] = byte(n>>8), byte(n)
		for _, have := range []int{2, n - 1, n, n + 1, 5000} {
			if have < 2 || have > 5000 {
				continue
			}
			want := api.OK
			switch {
			case n < 7 || n > 4103:
				want = api.ErrForm
			case have < n:
				want = api.ErrShort
			}
			m, used, err := Read(all[:have])
			if err != want || err == api.OK && (used != n || !bytes.Equal(m.Body, all[7:n])) ||
				err != api.OK && (used != 0 || !equal(m, api.Message{})) {
				t.Fatalf("%d of %d bytes: %v, %d, %v", have, n, m, used, err)
			}
		}
	}
}

func TestReadOfWrite(t *testing.T) {
	d := dice(71)
	for range 2000 {
		m := d.message()
		b, err := Write(m)
		if err != api.OK {
			t.Fatal(err)
		}
		for _, behind := range [][]byte{nil, {0}, {255, 255}, b} {
			got, n, err := Read(slices.Concat(b, behind))
			if !equal(got, m) || n != len(b) || err != api.OK {
				t.Errorf("%v: %v, %d, %v", m, got, n, err)
			}
		}
		for _, cut := range []int{0, 1, 2, 6, 7, len(b) - 1} {
			if got, n, err := Read(b[:min(cut, len(b)-1)]); !equal(got, api.Message{}) || n != 0 || err != api.ErrShort {
				t.Errorf("%d bytes of %v: %v, %d, %v", cut, m, got, n, err)
			}
		}
	}
}

func TestSame(t *testing.T) {
	all := []api.Message{
		{},
		{Op: 1},
		{Id: 1},
		{Op: 1, Id: 1},
		{Op: 257},
		{Id: 1<<32 + 1},
		{Op: -1, Id: -1},
		{Body: []byte{0}},
		{Body: []byte{1}},
		{Body: []byte{0, 0}},
		{Op: 1, Body: []byte{0}},
		{Body: body(4096)},
		{Body: body(4096)[:4095]},
		{Body: append(body(4096)[:4095:4095], 0)},
		{Body: body(5000)},
	}
	for i, a := range all {
		for j, b := range all {
			b.Body = slices.Clone(b.Body)
			if got := Same(a, b); got != (i == j) {
				t.Errorf("%d, %d: %v", i, j, got)
			}
		}
	}
	if !Same(api.Message{Body: nil}, api.Message{Body: []byte{}}) || !Same(api.Message{Body: []byte{}}, api.Message{}) {
		t.Error("nil and empty bodies")
	}
}

func TestSplitExamples(t *testing.T) {
	one := []byte{0, 8, 3, 0, 0, 0, 1, 9}
	two := []byte{0, 7, 4, 0, 0, 0, 2}
	for i, x := range []struct {
		b     []byte
		count int
		n     int
		want  api.Errno
	}{
		{nil, 0, 0, api.OK},
		{[]byte{}, 0, 0, api.OK},
		{one, 1, 8, api.OK},
		{slices.Concat(one, two), 2, 15, api.OK},
		{slices.Concat(one, two, one), 3, 23, api.OK},
		{slices.Concat(one, two, []byte{0}), 2, 15, api.ErrShort},
		{slices.Concat(one, two, []byte{255}), 2, 15, api.ErrShort},
		{slices.Concat(one, two[:6]), 1, 8, api.ErrShort},
		{slices.Concat(one, []byte{0, 6}, two), 1, 8, api.ErrForm},
		{slices.Concat(one, []byte{16, 8}, two), 1, 8, api.ErrForm},
		{[]byte{0}, 0, 0, api.ErrShort},
		{[]byte{0, 0}, 0, 0, api.ErrForm},
		{slices.Concat([]byte{0, 0}, one), 0, 0, api.ErrForm},
	} {
		ms, n, err := Split(x.b)
		if len(ms) != x.count || n != x.n || err != x.want {
			t.Errorf("%d: %v, %d, %v", i, ms, n, err)
		}
	}
}

func TestSplit(t *testing.T) {
	for _, b := range rows() {
		want := read(b)
		ms, n, err := Split(b)
		if !equalAll(ms, want.ms) || n != want.n || err != want.wrong() {
			t.Errorf("%v: %d, %d, %v", b, len(ms), n, err)
		}
		_, used, behind := Read(b[n:])
		if used != 0 || err != behind && n < len(b) {
			t.Errorf("%v: behind: %d, %v", b, used, behind)
		}
	}
}

// P7.2

func TestZeroReader(t *testing.T) {
	var r Reader
	if r.Broken() || r.Left() != 0 {
		t.Error(r.Broken(), r.Left())
	}
	for _, b := range [][]byte{nil, {}} {
		if ms := r.Put(b); len(ms) != 0 || r.Broken() || r.Left() != 0 {
			t.Error(ms, r.Broken(), r.Left())
		}
	}
	if ms := r.Put([]byte{0, 8, 3, 0, 0, 0, 1, 9}); !equalAll(ms, []api.Message{{Op: 3, Id: 1, Body: []byte{9}}}) || r.Left() != 0 {
		t.Error(ms, r.Left())
	}
}

// TestReaderSteps tells pieces, and looks at all there is to see behind each of them.
func TestReaderSteps(t *testing.T) {
	one := []byte{0, 8, 3, 0, 0, 0, 1, 9}
	for i, x := range []struct {
		pieces [][]byte
		counts []int
		lefts  []int
		broken int // the piece that breaks it, or -1
	}{
		{[][]byte{one, one}, []int{1, 1}, []int{0, 0}, -1},
		{[][]byte{slices.Concat(one, one, one)}, []int{3}, []int{0}, -1},
		{[][]byte{one[:1], one[1:2], one[2:7], one[7:]}, []int{0, 0, 0, 1}, []int{1, 2, 7, 0}, -1},
		{[][]byte{one[:3], nil, {}, one[3:]}, []int{0, 0, 0, 1}, []int{3, 3, 3, 0}, -1},
		{[][]byte{slices.Concat(one, one[:5]), slices.Concat(one[5:], one[:1]), one[1:]}, []int{1, 1, 1}, []int{5, 1, 0}, -1},
		{[][]byte{{0}, {6}, one}, []int{0, 0, 0}, []int{1, 0, 0}, 1},
		{[][]byte{{16}, {8}, one}, []int{0, 0, 0}, []int{1, 0, 0}, 1},
		{[][]byte{{0, 0}, nil, one}, []int{0, 0, 0}, []int{0, 0, 0}, 0},
		{[][]byte{slices.Concat(one, one, []byte{0, 6}, one), one}, []int{2, 0}, []int{0, 0}, 0},
		{[][]byte{slices.Concat(one, []byte{255}), slices.Concat([]byte{255}, one)}, []int{1, 0}, []int{1, 0}, 1},
		{[][]byte{one[:7], slices.Concat(one[7:], []byte{0, 1}), one}, []int{0, 1, 0}, []int{7, 0, 0}, 1},
		{[][]byte{{16, 7}, body(4100), body(1), one}, []int{0, 0, 1, 1}, []int{2, 4102, 0, 0}, -1},
	} {
		var r Reader
		for j, b := range x.pieces {
			ms := r.Put(b)
			broken := x.broken >= 0 && j >= x.broken
			if len(ms) != x.counts[j] || r.Left() != x.lefts[j] || r.Broken() != broken {
				t.Errorf("%d, %d: %v, %d, %v", i, j, ms, r.Left(), r.Broken())
			}
		}
	}
}

// TestReaderEachLength tells the two bytes of every length, one by one.
func TestReaderEachLength(t *testing.T) {
	for n := range 1 << 16 {
		var r Reader
		r.Put([]byte{byte(n >> 8)})
		if r.Broken() || r.Left() != 1 {
			t.Fatal(n, r.Broken(), r.Left())
		}
		r.Put([]byte{byte(n)})
		if may := n >= 7 && n <= 4103; r.Broken() == may || may && r.Left() != 2 || !may && r.Left() != 0 {
			t.Fatal(n, r.Broken(), r.Left())
		}
	}
}

// P7.3

// cut tells a reader b in pieces, as next tells how long each of them is, and answers what the chapter's words are held against.
func cut(t *testing.T, b []byte, next func() int) []api.Message {
	var r Reader
	var all []api.Message
	for at := 0; ; {
		want := read(b[:at])
		left := at - want.n
		if want.broken {
			left = 0
		}
		if !equalAll(all, want.ms) || r.Broken() != want.broken || r.Left() != left {
			t.Errorf("%v: at %d: %d messages, %v, %d", b, at, len(all), r.Broken(), r.Left())
			return all
		}
		if at == len(b) {
			return all
		}
		end := min(at+next(), len(b))
		all = append(all, r.Put(b[at:end])...)
		at = end
	}
}

func TestPieces(t *testing.T) {
	d := dice(73)
	for _, b := range rows() {
		// Each way of cutting them, as long as that isn't too much to look at.
		widths := []int{len(b) + 1, len(b)/2 + 1, 700}
		if len(b) < 200 {
			widths = append(widths, 1, 2, 3, 7, 8)
		}
		for _, w := range widths {
			cut(t, b, func() int { return w })
		}
		for range 3 {
			cut(t, b, func() int { return d.roll(d.roll(len(b)+2) + 1) })
		}
	}
}

// TestTwoPieces cuts a row of messages, and one that breaks, at each place.
func TestTwoPieces(t *testing.T) {
	var whole []byte
	for _, m := range []api.Message{{Op: 1}, {Op: 2, Id: 1 << 31, Body: body(20)}, {Op: 3, Body: []byte{0, 0}}, {Op: 4, Id: 5, Body: body(300)}} {
		whole = append(whole, bytesOf(m)...)
	}
	for _, b := range [][]byte{whole, slices.Concat(whole, []byte{0, 6}, whole), slices.Concat(whole[:7], []byte{16, 8}, whole)} {
		for at := range len(b) + 1 {
			first := true
			cut(t, b, func() int {
				if first {
					first = false
					return at
				}
				return len(b)
			})
		}
	}
}

// TestByteByByte tells long messages one byte at a time.
func TestByteByByte(t *testing.T) {
	want := []api.Message{{Op: 1, Id: 2, Body: body(4096)}, {Op: 3, Id: 4}, {Op: 5, Id: 6, Body: body(4095)}}
	var r Reader
	var got []api.Message
	for _, m := range want {
		for _, x := range bytesOf(m) {
			got = append(got, r.Put([]byte{x})...)
		}
		if r.Left() != 0 {
			t.Error(r.Left())
		}
	}
	if !equalAll(got, want) {
		t.Error(len(got))
	}
}

// R4, R5

// TestHandedIn looks whether what is handed in stays as it is, its spare room too, and whether it is shared.
func TestHandedIn(t *testing.T) {
	room := make([]byte, 40)
	for i := range room {
		room[i] = 0xee
	}
	given := append(room[:0], 0, 9, 3, 0, 0, 0, 1, 9, 8, 0, 8, 4)
	before := slices.Clone(room)
	check := func(name string) {
		t.Helper()
		if !slices.Equal(room, before) {
			t.Errorf("%s changed what was handed in: %v", name, room)
		}
	}
	m, _, _ := Read(given)
	_ = append(m.Body, 1, 2, 3)
	m.Body[0] = 77
	check("Read")
	ms, _, _ := Split(given)
	_ = append(ms[0].Body, 1, 2, 3)
	ms[0].Body[0] = 77
	check("Split")
	var r Reader
	ms = r.Put(given)
	_ = append(ms[0].Body, 1, 2, 3)
	ms[0].Body[0] = 77
	check("Put")
	r.Put([]byte{0, 0})
	check("Put behind it")
	b, _ := Write(api.Message{Body: room[:3]})
	b[7] = 1
	_ = append(b, 1, 2, 3)
	check("Write")
	Same(api.Message{Body: room[:3]}, api.Message{Body: room[:3]})
	check("Same")
}

// TestKept looks whether a reader keeps what was handed in, or what it answered.
func TestKept(t *testing.T) {
	var r Reader
	piece := []byte{0, 10, 3, 0, 0, 0, 1, 9}
	r.Put(piece)
	clear(piece)
	ms := r.Put([]byte{8, 7, 0, 8, 5, 0})
	if !equalAll(ms, []api.Message{{Op: 3, Id: 1, Body: []byte{9, 8, 7}}}) {
		t.Error(ms)
	}
	answered := ms[0].Body[:cap(ms[0].Body)]
	for i := range answered {
		answered[i] = 0xff
	}
	if ms = r.Put([]byte{0, 0, 2, 6}); !equalAll(ms, []api.Message{{Op: 5, Id: 2, Body: []byte{6}}}) {
		t.Error(ms)
	}
}

// TestApart looks whether the bodies of one answer share memory.
func TestApart(t *testing.T) {
	b := slices.Concat(bytesOf(api.Message{Op: 1, Body: body(5)}), bytesOf(api.Message{Op: 2, Body: body(6)}))
	for range 2 {
		ms, _, _ := Split(b)
		var r Reader
		for _, l := range [][]api.Message{ms, r.Put(b)} {
			_ = append(l[0].Body, 0xaa, 0xaa, 0xaa, 0xaa, 0xaa, 0xaa, 0xaa, 0xaa)
			if !slices.Equal(l[1].Body, body(6)) || l[1].Op != 2 {
				t.Error(l)
			}
		}
	}
}

// TestReaderCopied tells each of a reader and its copy bytes of its own.
func TestReaderCopied(t *testing.T) {
	var a Reader
	a.Put([]byte{0, 10, 3})
	a.Put([]byte{0, 0})
	b := a
	a.Put([]byte{0, 1, 1, 1})
	b.Put([]byte{0, 2, 2, 2})
	if ms := a.Put([]byte{1}); !equalAll(ms, []api.Message{{Op: 3, Id: 1, Body: []byte{1, 1, 1}}}) {
		t.Error(ms)
	}
	if ms := b.Put([]byte{2}); !equalAll(ms, []api.Message{{Op: 3, Id: 2, Body: []byte{2, 2, 2}}}) {
		t.Error(ms)
	}
}
