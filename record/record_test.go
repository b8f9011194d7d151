package record

import (
	"bytes"
	"math"
	"math/rand"
	"reflect"
	"slices"
	"testing"

	"enfilade/api"
)

// far are numbers that no field may be; below 0, and above the others' bytes, so that they would be right if they were cut.
var far = []int{-1, -256, math.MinInt, math.MinInt + 1, math.MaxInt, 1 << 31, 1<<32 + 1, 1<<63 - 255}

// wrongly holds Check's error, and Block's, against a field's.
func wrongly(t *testing.T, p Piece, field string) {
	t.Helper()
	want := &api.Fault{At: -1, Field: field, Why: api.ErrRange}
	if err := p.Check(); !reflect.DeepEqual(err, error(want)) {
		t.Errorf("P7.1: Check of %+v: %v, not %v", p, err, want)
	}
	if b, err := p.Block(1); b != nil || !reflect.DeepEqual(err, error(want)) {
		t.Errorf("P7.1: Block of %+v: %x, %v, not %v", p, b, err, want)
	}
}

// whole is a block, which must be.
func whole(t *testing.T, p Piece, mark byte) []byte {
	t.Helper()
	b, err := p.Block(mark)
	if err != nil {
		t.Fatalf("P7.1: Block of %+v: %v", p, err)
	}
	return b
}

// readsAs holds what a block is read as against a piece, and a mark.
func readsAs(t *testing.T, b []byte, p Piece, mark byte) {
	t.Helper()
	q, m, err := Read(b)
	if err != nil || m != mark || !same(p, q) {
		t.Fatalf("P7.1: Read of %x: %+v, %d, %v; not %+v, %d", b, q, m, err, p, mark)
	}
}

// unread holds a block that isn't read against its error.
func unread(t *testing.T, what string, b []byte, want error) {
	t.Helper()
	p, mark, err := Read(b)
	if err != want || mark != 0 || !reflect.DeepEqual(p, Piece{}) {
		t.Errorf("%s: Read of %x: %+v, %d, %v, not %v", what, b, p, mark, err, want)
	}
}

// unjoined holds pieces that are those of no bytes against Join's error.
func unjoined(t *testing.T, what string, l []Piece) {
	t.Helper()
	if b, err := Join(l); b != nil || err != api.ErrForm {
		t.Errorf("P7.1: Join, %s: %d bytes, %v", what, len(b), err)
	}
}

func TestCheck(t *testing.T) {
	full := run(42)
	for _, p := range []Piece{
		{Kind: 1, Parts: 1}, {Kind: 255, Parts: 1}, {Kind: 1, Parts: 1, Data: []byte{}},
		{Kind: 1, Epoch: 1<<31 - 1, Parts: 1}, {Kind: 1, Number: 1<<31 - 1, Parts: 1},
		{Kind: 1, Parts: 1, Data: full[:1]}, {Kind: 1, Parts: 1, Data: full[:41]}, {Kind: 1, Parts: 1, Data: full},
		{Kind: 1, Parts: 2, Data: full}, {Kind: 1, Part: 1, Parts: 2}, {Kind: 1, Part: 1, Parts: 2, Data: full[:1]}, {Kind: 1, Part: 1, Parts: 2, Data: full},
		{Kind: 1, Parts: 200, Data: full}, {Kind: 1, Part: 198, Parts: 200, Data: full}, {Kind: 1, Part: 199, Parts: 200}, {Kind: 1, Part: 199, Parts: 200, Data: full},
	} {
		if err := p.Check(); err != nil {
			t.Errorf("P7.1: Check of %+v: %v", p, err)
		}
		readsAs(t, whole(t, p, 7), p, 7)
	}
}

func TestCheckWrong(t *testing.T) {
	for _, n := range append([]int{0, 256, 257, 511}, far...) {
		wrongly(t, Piece{Kind: n, Parts: 1}, "kind")
	}
	for _, n := range far {
		wrongly(t, Piece{Kind: 1, Epoch: n, Parts: 1}, "epoch")
		wrongly(t, Piece{Kind: 1, Number: n, Parts: 1}, "number")
	}
	for _, n := range append([]int{0, 201, 255, 256, 257}, far...) {
		wrongly(t, Piece{Kind: 1, Parts: n}, "parts")
	}
	for _, n := range append([]int{1, 2, 200, 255, 256}, far...) {
		wrongly(t, Piece{Kind: 1, Part: n, Parts: 1}, "part")
	}
	for _, n := range append([]int{200, 201, 255, 256}, far...) {
		wrongly(t, Piece{Kind: 1, Part: n, Parts: 200, Data: run(42)}, "part")
	}
	for _, n := range []int{43, 44, 255, 256, 256 + 42, api.MaxBytes} {
		wrongly(t, Piece{Kind: 1, Parts: 1, Data: run(n)}, "data")
		wrongly(t, Piece{Kind: 1, Parts: 2, Data: run(n)}, "data")
		wrongly(t, Piece{Kind: 1, Part: 1, Parts: 2, Data: run(n)}, "data")
	}
	for _, n := range []int{0, 1, 21, 41} {
		wrongly(t, Piece{Kind: 1, Parts: 2, Data: run(n)}, "data")
		wrongly(t, Piece{Kind: 1, Part: 198, Parts: 200, Data: run(n)}, "data")
	}
}

// Of several fields that are wrong the one that is named first is told.
func TestCheckOrder(t *testing.T) {
	fields := []string{"kind", "epoch", "number", "parts", "part", "data"}
	for set := 1; set < 1<<len(fields); set++ {
		p := Piece{Kind: 1, Parts: 1}
		turns := []func(){func() { p.Kind = 0 }, func() { p.Epoch = -1 }, func() { p.Number = 1 << 31 }, func() { p.Parts = 201 }, func() { p.Part = -1 }, func() { p.Data = run(43) }}
		first := ""
		for i, turn := range turns {
			if set>>i&1 == 0 {
				continue
			}
			turn()
			if first == "" {
				first = fields[i]
			}
		}
		wrongly(t, p, first)
	}
}

func TestBlock(t *testing.T) {
	m := maker{rand.New(rand.NewSource(7))}
	for i := range 20000 {
		p, mark := m.piece(), byte(i)
		b := whole(t, p, mark)
		if want := toldOf(p, mark).block(); !bytes.Equal(b, want) {
			t.Fatalf("P7.1: Block(%d) of %+v: %x, not %x", mark, p, b, want)
		}
		readsAs(t, b, p, mark)
	}
}

func TestReadLengths(t *testing.T) {
	b := whole(t, Piece{Kind: 1, Parts: 1}, 1)
	for n := range 64 {
		unread(t, "P7.1: too short", b[:n], api.ErrForm)
	}
	unread(t, "P7.1: nothing", nil, api.ErrForm)
	for _, n := range []int{1, 2, 64, api.MaxBytes} {
		unread(t, "P7.1: too long", append(bytes.Clone(b), make([]byte, n)...), api.ErrForm)
	}
	unread(t, "P7.1: two blocks", append(bytes.Clone(b), b...), api.ErrForm)
	// Noughts have marks that are one, but not the sum of noughts.
	unread(t, "P7.1: noughts", make([]byte, 64), api.ErrSum)
}

// Each bit counts.
func TestReadTurned(t *testing.T) {
	for _, length := range []int{0, 1, 3, 41, 42} {
		b := whole(t, Piece{Kind: 2, Epoch: 3, Number: 4, Part: 1, Parts: 2, Data: run(length)}, 9)
		for bit := range 8 * 64 {
			x := bytes.Clone(b)
			x[bit/8] ^= 1 << (bit % 8)
			want := api.ErrSum
			if at := bit / 8; at >= 21+length && at < 63 {
				want = api.ErrForm
			}
			unread(t, "P7.1: turned", x, want)
		}
	}
}

// What has its sum, but isn't the block of a piece.
func TestReadNoPiece(t *testing.T) {
	for _, turn := range []func(x *told){
		func(x *told) { x.kind = 0 },
		func(x *told) { x.epoch = 1 << 31 }, func(x *told) { x.epoch = 1<<32 - 1 },
		func(x *told) { x.number = 1 << 31 }, func(x *told) { x.number = 1<<32 - 1 },
		func(x *told) { x.parts = 0 }, func(x *told) { x.parts = 201 }, func(x *told) { x.parts = 255 },
		func(x *told) { x.part = 1 }, func(x *told) { x.part = 255 }, func(x *told) { x.part, x.parts = 200, 200 }, func(x *told) { x.part, x.parts = 200, 201 },
		func(x *told) { x.parts, x.length = 2, 41 }, func(x *told) { x.parts, x.length, x.space = 2, 0, [42]byte{} },
		func(x *told) { x.length = 40 }, func(x *told) { x.length = 0 }, func(x *told) { x.space[41] = 1 },
		func(x *told) { x.length = 43 }, func(x *told) { x.length = 50 }, func(x *told) { x.length = 51 }, func(x *told) { x.length = 255 },
	} {
		x := toldOf(Piece{Kind: 1, Parts: 1, Data: run(41)}, 5)
		readsAs(t, x.block(), Piece{Kind: 1, Parts: 1, Data: run(41)}, 5)
		turn(&x)
		unread(t, "P7.1: no piece", x.block(), api.ErrForm)
		// Marks, and sums, are looked at ahead of it.
		off, torn := x, x
		off.off, torn.last = 1<<63, 128
		unread(t, "P7: R2: no piece, and not its sum", off.block(), api.ErrSum)
		unread(t, "P7: R2: no piece, and not its mark", torn.block(), api.ErrSum)
	}
}

// A byte that isn't 0 behind the data is in no sum, wherever it stands.
func TestReadBehind(t *testing.T) {
	for length := range 42 {
		for at := length; at < 42; at++ {
			x := toldOf(Piece{Kind: 1, Parts: 1, Data: run(length)}, 5)
			x.space[at] = byte(at + 1)
			unread(t, "P7.1: behind the data", x.block(), api.ErrForm)
		}
	}
}

func TestReadDrawn(t *testing.T) {
	m := maker{rand.New(rand.NewSource(8))}
	read := 0
	for range 50000 {
		x := told{mark: byte(m.Intn(256)), kind: byte(m.Intn(3)), epoch: m.Uint32() >> m.Intn(3), number: m.Uint32() >> m.Intn(3), part: byte(m.Intn(4)), parts: byte(m.Intn(4)), length: byte(m.oneOf(0, 3, 41, 42, 42, 42, 43))}
		m.Read(x.space[:min(m.oneOf(0, 3, 41, 42), int(x.length), 42)])
		p := Piece{Kind: int(x.kind), Epoch: int(x.epoch), Number: int(x.number), Part: int(x.part), Parts: int(x.parts)}
		if x.length > 42 {
			unread(t, "P7.1: drawn, too much data", x.block(), api.ErrForm)
			continue
		}
		p.Data = x.space[:x.length]
		if p.Check() != nil {
			unread(t, "P7.1: drawn, no piece", x.block(), api.ErrForm)
			continue
		}
		readsAs(t, x.block(), p, x.mark)
		read++
	}
	if read < 1000 {
		t.Errorf("P7.1: of what was drawn only %d blocks were right", read)
	}
}

// A block that was laid in part, over one with another mark, isn't read.
func TestTorn(t *testing.T) {
	m := maker{rand.New(rand.NewSource(9))}
	for i := range 2000 {
		mark := byte(i)
		now := m.piece()
		old := m.piece()
		// Most alike where it is the same piece: then only the marks differ.
		if i%3 == 0 {
			old = now
		}
		a, b := whole(t, now, mark), whole(t, old, mark-byte(1+m.Intn(255)))
		for n := 1; n < 64; n++ {
			unread(t, "P7.2", append(bytes.Clone(a[:n]), b[n:]...), api.ErrSum)
		}
	}
	// Likewise over noughts, where nothing was laid yet.
	a := whole(t, Piece{Kind: 1, Parts: 1}, 1)
	for n := 1; n < 64; n++ {
		unread(t, "P7.2: over noughts", append(bytes.Clone(a[:n]), make([]byte, 64-n)...), api.ErrSum)
	}
}

func TestSplitAndJoin(t *testing.T) {
	lengths := []int{399, 400, 4200, 8357, 8358, 8359, 8399, 8400}
	for n := range 300 {
		lengths = append(lengths, n)
	}
	for _, n := range lengths {
		b := run(n)
		l, err := Split(3, 4, 5, b)
		if err != nil || !slices.EqualFunc(l, pieces(3, 4, 5, b), same) {
			t.Fatalf("P7.1: Split of %d bytes: %+v, %v", n, l, err)
		}
		for _, p := range l {
			readsAs(t, whole(t, p, 1), p, 1)
		}
		if back, err := Join(l); err != nil || !bytes.Equal(back, b) {
			t.Fatalf("P7.1: Join of %d bytes, split: %x, %v", n, back, err)
		}
	}
	l, err := Split(1, 0, 0, nil)
	if err != nil || len(l) != 1 || len(l[0].Data) != 0 {
		t.Errorf("P7: R5: Split of nil: %+v, %v", l, err)
	}
	for _, x := range [][3]int{{1, 0, 0}, {255, 1<<31 - 1, 1<<31 - 1}} {
		if l, err := Split(x[0], x[1], x[2], run(43)); err != nil || !slices.EqualFunc(l, pieces(x[0], x[1], x[2], run(43)), same) {
			t.Errorf("P7.1: Split of %v: %+v, %v", x, l, err)
		}
	}
}

// The document's example.
func TestExample(t *testing.T) {
	l, err := Split(1, 2, 3, make([]byte, 43))
	if err != nil || len(l) != 2 || len(l[0].Data) != 42 || len(l[1].Data) != 1 {
		t.Errorf("P7.1: the example: %+v, %v", l, err)
	}
}

func TestSplitWrong(t *testing.T) {
	for _, n := range []int{8401, 8442, 8443, api.MaxBytes} {
		// However wrong the rest is.
		for _, kind := range []int{1, 0} {
			if l, err := Split(kind, -kind, 0, run(n)); l != nil || err != api.ErrLong {
				t.Errorf("P7.1: Split of %d bytes: %d pieces, %v", n, len(l), err)
			}
		}
	}
	for _, x := range []struct {
		kind, epoch, number int
		field               string
	}{
		{0, 0, 0, "kind"}, {256, 0, 0, "kind"}, {-1, -1, -1, "kind"}, {1, -1, 0, "epoch"}, {1, 1 << 31, -1, "epoch"}, {1, 0, -1, "number"}, {255, 0, 1 << 31, "number"}, {math.MaxInt, 0, 0, "kind"}, {1, math.MinInt, 0, "epoch"}, {1, 0, math.MaxInt, "number"},
	} {
		want := &api.Fault{At: -1, Field: x.field, Why: api.ErrRange}
		for _, n := range []int{0, 42, 43, 8400} {
			if l, err := Split(x.kind, x.epoch, x.number, run(n)); l != nil || !reflect.DeepEqual(err, error(want)) {
				t.Errorf("P7.1: Split of %+v, %d bytes: %+v, %v", x, n, l, err)
			}
		}
	}
}

func TestJoinOthers(t *testing.T) {
	unjoined(t, "nil", nil)
	unjoined(t, "none", []Piece{})
	turns := map[string]func(p *Piece){
		"another kind": func(p *Piece) { p.Kind = 8 }, "another epoch": func(p *Piece) { p.Epoch++ }, "another number": func(p *Piece) { p.Number-- },
		"another part": func(p *Piece) { p.Part++ }, "an earlier part": func(p *Piece) { p.Part-- }, "fewer parts": func(p *Piece) { p.Parts-- }, "more parts": func(p *Piece) { p.Parts++ },
		"too much data": func(p *Piece) { p.Data = run(43) },
	}
	for _, n := range []int{42, 43, 84, 85, 8400} {
		l := pieces(3, 4, 5, run(n))
		for at := range l {
			for what, turn := range turns {
				x := slices.Clone(l)
				turn(&x[at])
				if len(l) == 1 && (what == "another kind" || what == "another epoch" || what == "another number") {
					continue
				}
				unjoined(t, what, x)
			}
			x := slices.Clone(l)
			x[at].Data = run(41)
			if at < len(l)-1 {
				unjoined(t, "too little data", x)
			}
		}
	}
}

func TestJoinOrder(t *testing.T) {
	for _, n := range []int{42, 43, 84, 85, 200, 8400} {
		l := pieces(3, 4, 5, run(n))
		for at := range l {
			unjoined(t, "one is missing", slices.Delete(slices.Clone(l), at, at+1))
			unjoined(t, "one stands twice", slices.Insert(slices.Clone(l), at, l[at]))
			x := slices.Clone(l)
			x[0], x[at] = x[at], x[0]
			if at > 0 {
				unjoined(t, "two are turned", x)
			}
		}
		unjoined(t, "all stand twice", append(slices.Clone(l), l...))
	}
}

// Pieces that fit one another, but that none of them, or no bytes, may be.
func TestJoinNoPieces(t *testing.T) {
	for what, turn := range map[string]func(p *Piece){
		"kind 0": func(p *Piece) { p.Kind = 0 }, "kind 256": func(p *Piece) { p.Kind = 256 },
		"epoch below 0": func(p *Piece) { p.Epoch = -1 }, "epoch too great": func(p *Piece) { p.Epoch = 1 << 31 },
		"number below 0": func(p *Piece) { p.Number = -1 }, "number too great": func(p *Piece) { p.Number = 1 << 31 },
	} {
		for _, n := range []int{0, 42, 43, 85} {
			l := pieces(3, 4, 5, run(n))
			for i := range l {
				turn(&l[i])
			}
			unjoined(t, what, l)
		}
	}
	unjoined(t, "201 parts", pieces(1, 0, 0, run(8401)))
	unjoined(t, "much data", []Piece{{Kind: 1, Parts: 1, Data: run(43)}})
	for _, n := range []int{42, 84, 8358} {
		l := pieces(1, 0, 0, run(n))
		l = append(l, Piece{Kind: 1, Part: len(l)})
		for i := range l {
			l[i].Parts = len(l)
			if err := l[i].Check(); err != nil {
				t.Errorf("P7.1: Check of part %d of %d: %v", i, len(l), err)
			}
		}
		unjoined(t, "a last part without data behind others", l)
	}
	// However much there is of it: these would be 2^40 bytes.
	long := make([]byte, 1<<20)
	l := make([]Piece, 1<<20)
	for i := range l {
		l[i] = Piece{Kind: 1, Part: i, Parts: len(l), Data: long}
	}
	unjoined(t, "far too much", l)
}

func TestNewMemory(t *testing.T) {
	space := run(200)
	p := Piece{Kind: 1, Parts: 1, Data: space[:20]}
	b := whole(t, p, 3)
	p.Check()
	clear(b)
	again := whole(t, p, 3)
	q, _, err := Read(again)
	if err != nil {
		t.Fatalf("P7.1: Read: %v", err)
	}
	clear(append(q.Data, 0))
	if !bytes.Equal(space, run(200)) || !bytes.Equal(again, toldOf(p, 3).block()) {
		t.Errorf("P7: R6: a piece, its block, and what is read of it share memory")
	}
	l, err := Split(1, 2, 3, space[:100])
	if err != nil {
		t.Fatalf("P7.1: Split: %v", err)
	}
	joined, err := Join(l)
	if err != nil {
		t.Fatalf("P7.1: Join: %v", err)
	}
	clear(append(joined, 0))
	if !slices.EqualFunc(l, pieces(1, 2, 3, run(100)), same) {
		t.Errorf("P7: R6: Join's bytes are those of the pieces")
	}
	clear(append(l[0].Data, 0, 0, 0))
	want := pieces(1, 2, 3, run(100))
	want[0].Data = make([]byte, 42)
	if !bytes.Equal(space, run(200)) || !slices.EqualFunc(l, want, same) {
		t.Errorf("P7: R6: Split's pieces share memory")
	}
	one := []Piece{{Kind: 1, Parts: 1, Data: space[:20]}}
	joined, _ = Join(one)
	clear(append(joined, 0))
	if !bytes.Equal(space, run(200)) {
		t.Errorf("P7: R6: Join's bytes of one piece are the piece's")
	}
}
