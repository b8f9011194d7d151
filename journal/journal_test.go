package journal

import (
	"bytes"
	"math"
	"slices"
	"testing"

	"enfilade/api"
	"enfilade/block"
)

// disk is a new disk of so many blocks.
func disk(t *testing.T, blocks int) *block.Disk {
	t.Helper()
	d, err := block.New(blocks)
	if err != nil {
		t.Fatalf("a disk of %d blocks: %v", blocks, err)
	}
	return d
}

// open is a disk's journal, which is opened without a write.
func open(t *testing.T, d *block.Disk) *Journal {
	t.Helper()
	steps, before := d.Steps(), copyOf(d)
	j, err := Open(d)
	if err != nil || j == nil {
		t.Fatalf("P8.1: Open of %d blocks: %v", d.Len(), err)
	}
	if d.Steps() != steps || !same(before, copyOf(d)) {
		t.Fatalf("P8.1: Open wrote")
	}
	return j
}

// arm gives a disk a fuse.
func arm(t *testing.T, d *block.Disk, steps int) {
	t.Helper()
	if err := d.Arm(steps); err != nil {
		t.Fatalf("Arm(%d): %v", steps, err)
	}
}

// same: are two lists of bytes one (of nothing nil, too)?
func same(a, b [][]byte) bool { return slices.EqualFunc(a, b, bytes.Equal) }

// stands holds all that a journal tells against what it should.
func stands(t *testing.T, what string, j *Journal, w *told) {
	t.Helper()
	if j.Epoch() != w.epoch || j.Room() != w.room() || j.Dead() != w.dead {
		t.Fatalf("%s: epoch %d, room %d, dead %v; not %d, %d, %v", what, j.Epoch(), j.Room(), j.Dead(), w.epoch, w.room(), w.dead)
	}
	if !same(j.Saved(), w.save) {
		t.Fatalf("%s: Saved: %q, not %q", what, j.Saved(), w.save)
	}
	if !same(j.Records(), w.records) {
		t.Fatalf("%s: Records: %q, not %q", what, j.Records(), w.records)
	}
}

// answers holds a call's error against what it should be.
func answers(t *testing.T, what string, got, want error) {
	t.Helper()
	if got != want {
		t.Fatalf("%s: %v, not %v", what, got, want)
	}
}

// run is so many bytes, of which each differs from the next.
func run(n int) []byte {
	b := make([]byte, n)
	for i := range b {
		b[i] = byte(i%251 + 1)
	}
	return b
}

// list is a list of bytes of these lengths.
func list(lengths ...int) [][]byte {
	l := make([][]byte, len(lengths))
	for i, n := range lengths {
		l[i] = run(n)
	}
	return l
}

func TestOpenSizes(t *testing.T) {
	for n := 1; n < 16; n++ {
		j, err := Open(disk(t, n))
		if j != nil || err != api.ErrRange {
			t.Errorf("P8.1: Open of %d blocks: %v, %v", n, j, err)
		}
	}
	for _, d := range []*block.Disk{nil, {}} {
		if j, err := Open(d); j != nil || err != api.ErrRange {
			t.Errorf("P6: Open of no blocks: %v, %v", j, err)
		}
	}
	for _, n := range []int{16, 17, 18, 19, 20, 21, 100, 4095, 4096} {
		j := open(t, disk(t, n))
		if j.Epoch() != 0 || len(j.Saved()) != 0 || len(j.Records()) != 0 || j.Dead() {
			t.Errorf("P8.1: Open of %d new blocks: epoch %d, %q, %q, dead %v", n, j.Epoch(), j.Saved(), j.Records(), j.Dead())
		}
		if want := n - n/4 - n/4; j.Room() != want {
			t.Errorf("P8.1: Room of %d new blocks: %d, not %d", n, j.Room(), want)
		}
	}
	// Too few blocks are told of a dead disk, too.
	d := disk(t, 15)
	arm(t, d, 0)
	d.Write(0, nil)
	if j, err := Open(d); j != nil || err != api.ErrRange {
		t.Errorf("P8.1: Open of 15 dead blocks: %v, %v", j, err)
	}
}

// The document's example.
func TestExample(t *testing.T) {
	d := disk(t, 16)
	j := open(t, d)
	if j.Room() != 8 {
		t.Errorf("P8.1: the example: a log of %d blocks", j.Room())
	}
	answers(t, "P8.1: the example", j.Append(run(50)), nil)
	if j.Room() != 6 || d.Steps() != 2 {
		t.Errorf("P8.1: the example: Room %d behind %d writes", j.Room(), d.Steps())
	}
}

func TestAppendLengths(t *testing.T) {
	for _, x := range []struct{ bytes, blocks int }{{0, 1}, {1, 1}, {41, 1}, {42, 1}, {43, 2}, {84, 2}, {85, 3}, {126, 3}, {127, 4}, {8358, 199}, {8359, 200}, {8399, 200}, {8400, 200}} {
		d := disk(t, 420)
		j := open(t, d)
		answers(t, "P8.1: Append", j.Append(run(x.bytes)), nil)
		if j.Room() != 210-x.blocks || d.Steps() != x.blocks {
			t.Errorf("P8.1: Append of %d bytes: Room %d behind %d writes", x.bytes, j.Room(), d.Steps())
		}
		stands(t, "P8.3: opened again", open(t, d), opened(copyOf(d)))
		if !same(j.Records(), list(x.bytes)) || !same(open(t, d).Records(), list(x.bytes)) {
			t.Errorf("P8.1: Records behind Append of %d bytes: %q", x.bytes, j.Records())
		}
	}
	j := open(t, disk(t, 4096))
	answers(t, "P7: R5: Append of nil", j.Append(nil), nil)
	for _, n := range []int{8401, 8402, 8442, 8443, api.MaxBytes} {
		answers(t, "P8.1: Append of too much", j.Append(run(n)), api.ErrLong)
	}
	if !same(j.Records(), list(0)) || j.Room() != 2047 {
		t.Errorf("P7: R4: Records behind an error: %q", j.Records())
	}
}

// Full is a log just if the pieces don't fit any more, to the last block.
func TestAppendFull(t *testing.T) {
	for room := range 9 {
		d := disk(t, 16)
		j := open(t, d)
		for range 8 - room {
			answers(t, "P8.1: Append", j.Append(nil), nil)
		}
		for n := range 10 {
			b := run(n * 42)
			fits := max(n, 1) <= room
			if !fits {
				before := opened(copyOf(d))
				answers(t, "P8.1: Append without room", j.Append(b), api.ErrFull)
				answers(t, "P7: R2: too long, and without room", j.Append(run(8401)), api.ErrLong)
				stands(t, "P7: R4: full", j, before)
				continue
			}
			k := open(t, d.Crash(0))
			answers(t, "P8.1: Append with room", k.Append(b), nil)
			if k.Room() != room-max(n, 1) {
				t.Errorf("P8.1: Room %d, of %d, behind %d bytes", k.Room(), room, len(b))
			}
		}
	}
}

func TestSaveRoom(t *testing.T) {
	for _, x := range []struct {
		blocks int
		list   [][]byte
		want   error
	}{
		{16, nil, nil}, {16, list(0), nil}, {16, list(0, 0, 0), nil}, {16, list(0, 0, 0, 0), api.ErrFull},
		{16, list(126), nil}, {16, list(127), api.ErrFull}, {16, list(42, 84), nil}, {16, list(42, 85), api.ErrFull}, {16, list(43, 42), nil}, {16, list(43, 43), api.ErrFull},
		{19, list(126), nil}, {19, list(127), api.ErrFull}, {20, list(127), nil}, {20, list(169), api.ErrFull}, {23, list(169), api.ErrFull},
		{804, list(8400), nil}, {803, list(8400), api.ErrFull}, {804, list(8400, 0), api.ErrFull}, {804, list(8358, 0), nil},
		{4096, list(8400, 8400, 8400, 8400, 8400, 966), nil}, {4096, list(8400, 8400, 8400, 8400, 8400, 967), api.ErrFull},
		{16, list(8401), api.ErrLong}, {16, list(0, 0, 0, 0, 0, 8401), api.ErrLong}, {4096, list(8401), api.ErrLong}, {4096, list(8400, 1, 8401, 2), api.ErrLong}, {16, list(8400, 8400, 8401), api.ErrLong}, {16, list(8400), api.ErrFull},
	} {
		d := disk(t, x.blocks)
		j := open(t, d)
		answers(t, "P8.1: Append", j.Append([]byte("r")), nil)
		// In both fields there is the same room.
		for epoch := range 3 {
			before := opened(copyOf(d))
			steps := d.Steps()
			if err := j.Save(x.list); err != x.want {
				t.Fatalf("P8.1: Save of %d, on %d blocks: %v, not %v", len(x.list), x.blocks, err, x.want)
			}
			if x.want != nil {
				stands(t, "P7: R4: no room", j, before)
				if d.Steps() != steps {
					t.Fatalf("P8.1: a save without room was begun")
				}
				continue
			}
			if j.Epoch() != epoch+1 || !same(j.Saved(), x.list) || len(j.Records()) != 0 || j.Room() != start(x.blocks, 3)-start(x.blocks, 2) {
				t.Fatalf("P8.1: Save of %d, on %d blocks: epoch %d, %d saved, %d records, room %d", len(x.list), x.blocks, j.Epoch(), len(j.Saved()), len(j.Records()), j.Room())
			}
			stands(t, "P8.3: opened again", open(t, d), opened(copyOf(d)))
			stands(t, "P8.3: opened again", open(t, d), &told{blocks: copyOf(d), epoch: epoch + 1, save: x.list})
		}
	}
	// However much there is of it.
	j := open(t, disk(t, 4096))
	answers(t, "P6: Save of far too much", j.Save(slices.Repeat(list(8400), 1<<16)), api.ErrFull)
	answers(t, "P6: Save of far too much, and too long", j.Save(append(slices.Repeat(list(0), 1<<16), run(8401))), api.ErrLong)
}

// Each block is laid in its field, with its mark, and nothing else is written.
func TestLaid(t *testing.T) {
	d := disk(t, 21)
	j, w := open(t, d), &told{blocks: copyOf(disk(t, 21))}
	for i := range 1000 {
		var l []write
		var after *told
		var err, want error
		if i%3 == 2 {
			x := list(i%100, i%43)
			l, after, want = w.saveList(x)
			err = j.Save(x)
		} else {
			l, after, want = w.append(run(i % 150))
			err = j.Append(run(i % 150))
		}
		answers(t, "P8.1: a call", err, want)
		blocks := lay(w.blocks, l, 64*len(l))
		w = after
		w.blocks = blocks
		if !same(copyOf(d), w.blocks) {
			t.Fatalf("P8.1: call %d: the disk is %x, not %x", i, copyOf(d), w.blocks)
		}
		stands(t, "P8.1: a call", j, w)
	}
	// So often that the marks went round.
	if b, _ := d.Read(start(21, 2)); b[63] != 334-256 {
		t.Errorf("P8.1: the mark of the log's first block is %d", b[63])
	}
	first := disk(t, 16)
	open(t, first).Append([]byte("a"))
	if b, _ := first.Read(8); !bytes.Equal(b, pieceBlock(1, 1, 0, 0, 0, 1, []byte("a"))) {
		t.Errorf("P8.1: the first block of the log: %x", b)
	}
}

// The records of an earlier epoch, and what is left of longer ones, aren't read.
func TestLeftOver(t *testing.T) {
	d := disk(t, 16)
	j := open(t, d)
	for range 8 {
		answers(t, "P8.1: Append", j.Append([]byte("old")), nil)
	}
	answers(t, "P8.1: Save", j.Save(list(1, 2)), nil)
	stands(t, "P8.1: no records behind a save", open(t, d), &told{blocks: copyOf(d), epoch: 1, save: list(1, 2)})
	answers(t, "P8.1: Append", j.Append([]byte("new")), nil)
	answers(t, "P8.1: Append", j.Append(nil), nil)
	stands(t, "P8.1: those of an earlier epoch", open(t, d), &told{blocks: copyOf(d), epoch: 1, save: list(1, 2), records: [][]byte{[]byte("new"), nil}})
	answers(t, "P8.1: Save", j.Save(nil), nil)
	stands(t, "P8.1: a save of nothing", open(t, d), &told{blocks: copyOf(d), epoch: 2})
	answers(t, "P8.1: Save", j.Save(list(3)), nil)
	stands(t, "P8.1: a shorter save", open(t, d), &told{blocks: copyOf(d), epoch: 3, save: list(3)})
}

// A journal on a dead disk tells what stands, and does nothing.
func TestOpenDead(t *testing.T) {
	d := disk(t, 16)
	j := open(t, d)
	answers(t, "P8.1: Save", j.Save(list(5)), nil)
	answers(t, "P8.1: Append", j.Append(run(50)), nil)
	w := opened(copyOf(d))
	arm(t, d, 0)
	if j.Dead() || open(t, d).Dead() {
		t.Errorf("P8.1: dead, and no write was refused")
	}
	if err := d.Write(0, nil); err != api.ErrDead {
		t.Fatalf("a write without power: %v", err)
	}
	w.dead = true
	dead := open(t, d)
	for range 2 {
		stands(t, "P8.1: opened on a dead disk", dead, w)
		answers(t, "P8.1: Append, dead", dead.Append(nil), api.ErrDead)
		answers(t, "P7: R2: Append, dead, too long", dead.Append(run(8401)), api.ErrDead)
		answers(t, "P7: R2: Append, dead, without room", dead.Append(run(400)), api.ErrDead)
		answers(t, "P8.1: Save, dead", dead.Save(nil), api.ErrDead)
		answers(t, "P7: R2: Save, dead, too long", dead.Save(list(8401)), api.ErrDead)
		answers(t, "P7: R2: Save, dead, without room", dead.Save(list(400)), api.ErrDead)
	}
	if !same(copyOf(d), w.blocks) {
		t.Errorf("P8.1: a dead disk was written")
	}
	w.dead = false
	stands(t, "P8.2: opened behind a crash", open(t, d.Crash(0)), w)
}

// What has no room, or is too long, takes no step: only a write that is refused is a loss of power.
func TestErrorsTakeNoPower(t *testing.T) {
	d := disk(t, 16)
	j := open(t, d)
	answers(t, "P8.1: Append", j.Append(nil), nil)
	w := opened(copyOf(d))
	arm(t, d, 0)
	answers(t, "P8.1: Append", j.Append(run(8401)), api.ErrLong)
	answers(t, "P8.1: Append", j.Append(run(7*42+1)), api.ErrFull)
	answers(t, "P8.1: Save", j.Save(list(8401)), api.ErrLong)
	answers(t, "P8.1: Save", j.Save(list(127)), api.ErrFull)
	stands(t, "P8.1: without power, and no write was refused", j, w)
	if d.Dead() {
		t.Errorf("P8.1: the disk is dead behind errors")
	}
	arm(t, d, 3)
	answers(t, "P8.1: Append, with just enough power", j.Append(run(85)), nil)
	if j.Dead() {
		t.Errorf("P8.1: dead, and no write was refused")
	}
	answers(t, "P8.1: Save without power", j.Save(nil), api.ErrDead)
	w = opened(copyOf(d))
	w.dead = true
	stands(t, "P7: R4: a save was refused", j, w)
	answers(t, "P8.1: Append of a dead one", j.Append(run(8401)), api.ErrDead)
	arm(t, d.Crash(0), math.MaxInt)
	stands(t, "P8.1: dead from then on", j, w)
}

func TestNewMemory(t *testing.T) {
	d := disk(t, 40)
	j := open(t, d)
	space := bytes.Repeat([]byte("abcdefgh"), 8)
	record := space[:20]
	l := [][]byte{space[:10], space[10:20], nil, space[60:]}[:2]
	answers(t, "P8.1: Save", j.Save(l), nil)
	answers(t, "P8.1: Append", j.Append(record), nil)
	answers(t, "P8.1: Append", j.Append(space[20:25]), nil)
	if !bytes.Equal(space, bytes.Repeat([]byte("abcdefgh"), 8)) || !same(l[:4], [][]byte{space[:10], space[10:20], nil, space[60:]}) {
		t.Errorf("P8.3: what was handed in is changed: %q, %q", space, l[:4])
	}
	clear(space)
	clear(l)
	want := &told{blocks: copyOf(d), epoch: 1, save: [][]byte{[]byte("abcdefghab"), []byte("cdefghabcd")}, records: [][]byte{[]byte("abcdefghabcdefghabcd"), []byte("efgha")}}
	for _, j := range []*Journal{j, open(t, d)} {
		stands(t, "P8.3: what was handed in isn't kept", j, want)
		for _, ask := range []func() [][]byte{j.Saved, j.Records} {
			one, two := ask(), ask()
			// Of each item all of its room, and of the list, too.
			for i, b := range one {
				for k := range b[:cap(b)] {
					b[:cap(b)][k] = 'X'
				}
				for _, other := range one[i+1:] {
					if bytes.ContainsRune(other, 'X') {
						t.Errorf("P8.3: two items of one answer share memory")
					}
				}
			}
			clear(one[:cap(one)])
			if !same(two, ask()) || bytes.ContainsRune(bytes.Join(two, nil), 'X') {
				t.Errorf("P8.3: answers share memory")
			}
		}
		stands(t, "P8.3: what is kept", j, want)
	}
	answers(t, "P8.1: Save of what was saved", j.Save(j.Saved()), nil)
	if j.Epoch() != 2 || !same(j.Saved(), want.save) {
		t.Errorf("P8.1: Save of what was saved: %q", j.Saved())
	}
}
