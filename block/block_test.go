package block

import (
	"bytes"
	"math"
	"testing"

	"enfilade/api"
)

// disk is a new disk of so many blocks.
func disk(t *testing.T, blocks int) *Disk {
	t.Helper()
	d, err := New(blocks)
	if err != nil || d == nil {
		t.Fatalf("P6.1: New(%d): %v, %v", blocks, d, err)
	}
	return d
}

// lay writes a block, which must not be refused.
func lay(t *testing.T, d *Disk, n int, s string) {
	t.Helper()
	if err := d.Write(n, []byte(s)); err != nil {
		t.Fatalf("P6.1: Write(%d, %q): %v", n, s, err)
	}
}

// refuse writes a block, which must be refused.
func refuse(t *testing.T, d *Disk, n int, s string) {
	t.Helper()
	if err := d.Write(n, []byte(s)); err != api.ErrDead {
		t.Fatalf("P6.1: Write(%d, %q) without power: %v", n, s, err)
	}
}

// arm gives a disk a fuse.
func arm(t *testing.T, d *Disk, steps int) {
	t.Helper()
	if err := d.Arm(steps); err != nil {
		t.Fatalf("P6.1: Arm(%d): %v", steps, err)
	}
}

// text is what stands on a block.
func text(t *testing.T, d *Disk, n int) string {
	t.Helper()
	b, err := d.Read(n)
	if err != nil || len(b) != 64 {
		t.Fatalf("P6.1: Read(%d): %d bytes, %v", n, len(b), err)
	}
	return string(b)
}

// padded is a text, and noughts behind, 64 bytes in all.
func padded(s string) string { return s + string(make([]byte, 64-len(s))) }

// times is a byte so many times.
func times(c byte, n int) string { return string(bytes.Repeat([]byte{c}, n)) }

// stands holds all blocks of a disk, and what it tells of itself, against what they should be.
func stands(t *testing.T, what string, d *Disk, dead bool, steps int, want ...string) {
	t.Helper()
	if d.Len() != len(want) || d.Dead() != dead || d.Steps() != steps {
		t.Fatalf("%s: %d blocks, dead %v, %d steps; not %d, %v, %d", what, d.Len(), d.Dead(), d.Steps(), len(want), dead, steps)
	}
	for n, s := range want {
		if got := text(t, d, n); got != padded(s) {
			t.Fatalf("%s: block %d: %q, not %q", what, n, got, padded(s))
		}
	}
}

func TestNew(t *testing.T) {
	for _, blocks := range []int{1, 2, 3, 100, 4095, 4096} {
		stands(t, "P6.1: New", disk(t, blocks), false, 0, make([]string, blocks)...)
	}
	for _, blocks := range []int{0, -1, 4097, 4098, 1 << 32, 1<<32 + 1, math.MaxInt, math.MinInt} {
		if d, err := New(blocks); d != nil || err != api.ErrRange {
			t.Errorf("P6.1: New(%d): %v, %v", blocks, d, err)
		}
	}
}

func TestNoSuchBlock(t *testing.T) {
	d := disk(t, 3)
	lay(t, d, 1, "one")
	for _, n := range []int{-1, 3, 4, 64, 4096, 1 << 32, math.MaxInt, math.MinInt} {
		if b, err := d.Read(n); b != nil || err != api.ErrRange {
			t.Errorf("P6.1: Read(%d): %v, %v", n, b, err)
		}
		if err := d.Write(n, []byte("x")); err != api.ErrRange {
			t.Errorf("P6.1: Write(%d): %v", n, err)
		}
	}
	stands(t, "P7: R4: no such block", d, false, 1, "", "one", "")
}

func TestWriteLengths(t *testing.T) {
	for n := range 65 {
		d := disk(t, 3)
		for k := range 3 {
			lay(t, d, k, times('z', 64))
		}
		lay(t, d, 1, times('a', n))
		stands(t, "P6.1: Write", d, false, 4, times('z', 64), times('a', n), times('z', 64))
	}
	d := disk(t, 2)
	lay(t, d, 0, "kept")
	for _, n := range []int{65, 66, 128, 65536} {
		if err := d.Write(0, bytes.Repeat([]byte("a"), n)); err != api.ErrLong {
			t.Errorf("P6.1: Write of %d bytes: %v", n, err)
		}
	}
	stands(t, "P7: R4: too long", d, false, 1, "kept", "")
	if err := d.Write(0, nil); err != nil {
		t.Errorf("P7: R5: Write of nil: %v", err)
	}
	stands(t, "P7: R5: nil", d, false, 2, "", "")
}

func TestFuse(t *testing.T) {
	for steps := range 6 {
		d := disk(t, 2)
		lay(t, d, 1, "ahead")
		arm(t, d, steps)
		for k := range steps {
			lay(t, d, 0, times('a', k+1))
		}
		stands(t, "P6.1: a fuse that burnt down isn't a power that is gone", d, false, steps+1, times('a', steps), "ahead")
		for range 3 {
			refuse(t, d, 1, "late")
			stands(t, "P6.1: a write was refused", d, true, steps+1, times('a', steps), "ahead")
		}
	}
	d := disk(t, 1)
	arm(t, d, math.MaxInt)
	for range 1000 {
		lay(t, d, 0, "x")
	}
	stands(t, "P6.1: a long fuse", d, false, 1000, "x")
}

// A fuse takes the place of the one before, whether that had a step left or not.
func TestArmAgain(t *testing.T) {
	for _, first := range []int{0, 1, 7} {
		for second := range 3 {
			d := disk(t, 1)
			arm(t, d, first)
			arm(t, d, second)
			for range second {
				lay(t, d, 0, "x")
			}
			refuse(t, d, 0, "y")
		}
	}
	d := disk(t, 1)
	arm(t, d, 1)
	lay(t, d, 0, "a")
	arm(t, d, 1)
	lay(t, d, 0, "b")
	refuse(t, d, 0, "c")
}

func TestArmErrors(t *testing.T) {
	d := disk(t, 1)
	arm(t, d, 1)
	for _, steps := range []int{-1, -2, math.MinInt} {
		if err := d.Arm(steps); err != api.ErrRange {
			t.Errorf("P6.1: Arm(%d): %v", steps, err)
		}
	}
	lay(t, d, 0, "a")
	refuse(t, d, 0, "b")
	for _, steps := range []int{0, 1, math.MaxInt} {
		if err := d.Arm(steps); err != api.ErrDead {
			t.Errorf("P6.1: Arm(%d) of a dead disk: %v", steps, err)
		}
	}
	refuse(t, d, 0, "c")
	stands(t, "P7: R4: Arm of a dead disk", d, true, 1, "a")

	// No fuse comes of a number that is wrong.
	d = disk(t, 1)
	if err := d.Arm(-1); err != api.ErrRange {
		t.Errorf("P6.1: Arm(-1): %v", err)
	}
	lay(t, d, 0, "a")
}

// Of several errors the one that is named first is answered.
func TestErrorOrder(t *testing.T) {
	long := make([]byte, 65)
	d := disk(t, 1)
	arm(t, d, 0)
	for _, dead := range []bool{false, true} {
		if err := d.Write(1, long); err != api.ErrRange {
			t.Errorf("P7: R2: no such block, too long: %v", err)
		}
		if err := d.Write(1, nil); err != api.ErrRange {
			t.Errorf("P7: R2: no such block, no power: %v", err)
		}
		if err := d.Write(0, long); err != api.ErrLong {
			t.Errorf("P7: R2: too long, no power: %v", err)
		}
		if err := d.Arm(-1); err != api.ErrRange {
			t.Errorf("P7: R2: Arm(-1): %v", err)
		}
		if d.Dead() != dead {
			t.Fatalf("P7: R4: dead %v behind writes that are wrong, not %v", d.Dead(), dead)
		}
		refuse(t, d, 0, "x")
	}
}

// What is wrong with a write isn't a loss of power: no step of the fuse goes by it.
func TestWrongWritesBurnNothing(t *testing.T) {
	d := disk(t, 1)
	arm(t, d, 1)
	for _, n := range []int{-1, 1, 0} {
		if err := d.Write(n, make([]byte, 65)); err != api.ErrRange && err != api.ErrLong {
			t.Errorf("P6.1: Write(%d) of 65 bytes: %v", n, err)
		}
	}
	if _, err := d.Read(1); err != api.ErrRange {
		t.Errorf("P6.1: Read(1): %v", err)
	}
	lay(t, d, 0, "x")
	refuse(t, d, 0, "y")
}

// The document's example.
func TestExample(t *testing.T) {
	d := disk(t, 1)
	arm(t, d, 1)
	lay(t, d, 0, "first")
	refuse(t, d, 0, "SECOND")
	stands(t, "P6.2: the example", d.Crash(3), false, 0, "SECst")
	stands(t, "P6.2: this one stays", d, true, 1, "first")
}

func TestTorn(t *testing.T) {
	for torn := -2; torn <= 70; torn++ {
		laid := min(max(torn, 0), 64)
		for _, s := range []string{"", "b", times('b', 10), times('b', 63), times('b', 64)} {
			d := disk(t, 3)
			for k := range 3 {
				lay(t, d, k, times('z', 64))
			}
			arm(t, d, 0)
			refuse(t, d, 1, s)
			want := padded(s)[:laid] + times('z', 64-laid)
			stands(t, "P6.2: Crash", d.Crash(torn), false, 0, times('z', 64), want, times('z', 64))
			stands(t, "P6.2: this one stays", d, true, 3, times('z', 64), times('z', 64), times('z', 64))
		}
	}
	d := disk(t, 2)
	arm(t, d, 0)
	refuse(t, d, 1, "xy")
	stands(t, "P6.2: torn far below", d.Crash(math.MinInt), false, 0, "", "")
	stands(t, "P6.2: torn far above", d.Crash(math.MaxInt), false, 0, "", "xy")
}

// Only the write that was refused first may have been begun.
func TestTornIsTheFirst(t *testing.T) {
	d := disk(t, 3)
	lay(t, d, 0, "a")
	arm(t, d, 0)
	refuse(t, d, 1, "first")
	refuse(t, d, 1, "second")
	refuse(t, d, 2, "third")
	if err := d.Write(3, nil); err != api.ErrRange {
		t.Errorf("P6.1: Write(3): %v", err)
	}
	stands(t, "P6.2: the write that was refused first", d.Crash(64), false, 0, "a", "first", "")
}

func TestCrashWithoutRefusal(t *testing.T) {
	d := disk(t, 2)
	stands(t, "P6.2: nothing was written", d.Crash(64), false, 0, "", "")
	lay(t, d, 1, "a")
	stands(t, "P6.2: nothing was refused", d.Crash(64), false, 0, "", "a")
	arm(t, d, 1)
	lay(t, d, 0, "b")
	stands(t, "P6.2: nothing was refused, the fuse burnt down", d.Crash(64), false, 0, "b", "a")
	if err := d.Write(2, []byte("x")); err != api.ErrRange {
		t.Errorf("P6.1: Write(2): %v", err)
	}
	if err := d.Write(0, bytes.Repeat([]byte("x"), 65)); err != api.ErrLong {
		t.Errorf("P6.1: Write of 65 bytes: %v", err)
	}
	stands(t, "P6.2: what is wrong was never begun", d.Crash(64), false, 0, "b", "a")
}

// What comes of a crash has no fuse, and forgets what was refused.
func TestBehindACrash(t *testing.T) {
	d := disk(t, 2)
	arm(t, d, 3)
	lay(t, d, 0, "a")
	live := d.Crash(64)
	for range 10 {
		lay(t, live, 1, "x")
	}
	stands(t, "P6.1: no fuse behind a crash", live, false, 10, "a", "x")
	lay(t, d, 0, "b")
	lay(t, d, 0, "c")
	refuse(t, d, 1, "late")
	after := d.Crash(2)
	stands(t, "P6.2: a crash of what a crash left", after.Crash(64), false, 0, "c", "la")
	lay(t, after, 1, "new")
	stands(t, "P6.2: a later crash", after.Crash(64), false, 0, "c", "new")
	arm(t, after, 0)
	refuse(t, after, 0, "other")
	stands(t, "P6.2: another refusal", after.Crash(1), false, 0, "o", "new")
	if err := after.Arm(1); err != api.ErrDead {
		t.Errorf("P6.1: Arm of a dead disk: %v", err)
	}
}

// Neither a disk and what came of its crash, nor two crashes, share a block.
func TestCrashIsNewMemory(t *testing.T) {
	d := disk(t, 2)
	lay(t, d, 0, "a")
	arm(t, d, 1)
	one, two := d.Crash(0), d.Crash(0)
	lay(t, one, 0, "one")
	arm(t, one, 0)
	refuse(t, one, 1, "x")
	stands(t, "P7: R6: two", two, false, 0, "a", "")
	stands(t, "P7: R6: the disk", d, false, 1, "a", "")
	lay(t, d, 1, "d")
	refuse(t, d, 1, "e")
	stands(t, "P7: R6: two, behind the disk's writes", two, false, 0, "a", "")
	stands(t, "P7: R6: one, behind the disk's writes", one, true, 1, "one", "")
	before := d.Crash(64)
	lay(t, d.Crash(64), 1, "other")
	stands(t, "P7: R6: the crash before", before, false, 0, "a", "e")
}

// What is handed in is neither changed nor kept, and what is answered is nobody else's.
func TestBytesAreNewMemory(t *testing.T) {
	d := disk(t, 2)
	room := []byte("abcdefgh" + times('s', 100))
	b := room[:3]
	if err := d.Write(0, b); err != nil {
		t.Fatalf("P6.1: Write: %v", err)
	}
	if string(room) != "abcdefgh"+times('s', 100) {
		t.Errorf("P7: R6: what was handed in is %q", room)
	}
	stands(t, "P7: R6: spare room isn't written", d, false, 1, "abc", "")
	arm(t, d, 0)
	if err := d.Write(1, b); err != api.ErrDead {
		t.Fatalf("P6.1: Write: %v", err)
	}
	b[0] = 'X'
	stands(t, "P7: R6: what was written", d, true, 1, "abc", "")
	stands(t, "P7: R6: what was refused", d.Crash(64), false, 0, "abc", "abc")

	one, _ := d.Read(0)
	two, _ := d.Read(0)
	for i := range one[:cap(one)] {
		one[:cap(one)][i] = 'Y'
	}
	if string(two) != padded("abc") {
		t.Errorf("P7: R6: another answer is %q", two)
	}
	stands(t, "P7: R6: what is kept", d, true, 1, "abc", "")
}
