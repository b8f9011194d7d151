package journal

import (
	"math/rand"
	"testing"

	"enfilade/api"
	"enfilade/block"
)

// call: a save of a list, or its only item as a record.
type call struct {
	save bool
	list [][]byte
}

// do is a call of a journal.
func (c call) do(j *Journal) error {
	if c.save {
		return j.Save(c.list)
	}
	return j.Append(c.list[0])
}

// told is what the call should lay, or its error, and what stands then.
func (c call) told(w *told) ([]write, *told, error) {
	if c.save {
		return w.saveList(c.list)
	}
	return w.append(c.list[0])
}

// step does a call of both, with so many steps of power left, and holds one against the other; it tells the second, and what may be behind a crash.
func step(t *testing.T, j *Journal, d *block.Disk, w *told, c call, power int) (*told, *told) {
	t.Helper()
	l, after, want := c.told(w)
	n := len(l)
	if want == nil && n > power {
		n, want = power, api.ErrDead
	}
	answers(t, "P8.1: a call", c.do(j), want)
	blocks := lay(w.blocks, l, 64*n)
	was := w
	if want == nil {
		w = after.copy()
	}
	w = w.copy()
	w.blocks, w.dead = blocks, w.dead || want == api.ErrDead
	stands(t, "P8.1: behind a call", j, w)
	if !same(copyOf(d), blocks) {
		t.Fatalf("P8.1: behind a call of %d items the disk is %x, not %x", len(c.list), copyOf(d), blocks)
	}
	if was.dead || want == nil {
		after = w
	}
	return w, after
}

// isOne: has an opened journal just what one of the second readings has? It tells which.
func isOne(j *Journal, l ...*told) *told {
	for _, w := range l {
		if j.Epoch() == w.epoch && same(j.Saved(), w.save) && same(j.Records(), w.records) && j.Room() == w.room() && !j.Dead() {
			return w
		}
	}
	return nil
}

// calls are a list in which records and saves are of one block, and of several, and saves follow one another.
func calls() []call {
	record := func(n int) call { return call{false, list(n)} }
	save := func(lengths ...int) call { return call{true, list(lengths...)} }
	return []call{
		record(10), record(100), save(3, 50, 0), record(0), record(130), save(40, 20), save(1), record(84), save(),
		record(8401), save(8401), record(400), save(400), record(43), record(43), save(100, 42), record(5),
	}
}

// The power goes at each write of a list of calls, with each number of bytes laid.
func TestPowerGoesAnywhere(t *testing.T) {
	whole := 0
	for fuse := range 60 {
		d := disk(t, 20)
		j, w := open(t, d), &told{blocks: copyOf(d)}
		var after *told
		arm(t, d, fuse)
		for _, c := range calls() {
			if w, after = step(t, j, d, w, c, fuse-d.Steps()); w.dead {
				break
			}
		}
		if !w.dead {
			whole++
		}
		for torn := range 66 {
			x := d.Crash(torn)
			back := open(t, x)
			is := isOne(back, w, after)
			if is == nil {
				t.Fatalf("P8.2: fuse %d, torn %d: epoch %d, %q, %q", fuse, torn, back.Epoch(), back.Saved(), back.Records())
			}
			if again := open(t, x); isOne(again, is) == nil {
				t.Fatalf("P8.3: fuse %d, torn %d: opened twice, not the same", fuse, torn)
			}
			goOn(t, x, back, is)
		}
	}
	if whole == 0 {
		t.Errorf("P8.2: the list of calls was never done whole")
	}
}

// goOn does calls of a journal that was opened behind a crash, which go as ever.
func goOn(t *testing.T, d *block.Disk, j *Journal, w *told) {
	t.Helper()
	now := w.copy()
	now.blocks, now.dead = copyOf(d), false
	for _, c := range []call{{false, list(1)}, {false, list(45)}, {true, list(2, 60)}, {false, list(3)}} {
		now, _ = step(t, j, d, now, c, 1000)
		stands(t, "P8.3: opened again", open(t, d), now)
	}
}

// The same, once more within what is done behind the first crash, and behind the second.
func TestPowerGoesAgain(t *testing.T) {
	long := []call{{false, list(120)}, {false, list(1)}, {true, list(60, 30)}, {false, list(2)}}
	short := []call{{false, list(50)}, {true, list(7)}, {true, list(8, 9)}}
	for first := range 10 {
		for second := range 9 {
			for _, torn := range [][2]int{{0, 0}, {0, 63}, {1, 1}, {20, 64}, {63, 20}, {63, 63}, {64, 0}, {64, 64}} {
				d := disk(t, 20)
				j, w := open(t, d), &told{blocks: copyOf(d)}
				w, after := part(t, d, j, w, long, first)
				d = d.Crash(torn[0])
				j = open(t, d)
				if w = isOne(j, w, after); w == nil {
					t.Fatalf("P8.2: first %d, torn %d", first, torn[0])
				}
				w.blocks, w.dead = copyOf(d), false
				w, after = part(t, d, j, w, short, second)
				d = d.Crash(torn[1])
				j = open(t, d)
				if w = isOne(j, w, after); w == nil {
					t.Fatalf("P8.2: first %d, second %d, torn %v", first, second, torn)
				}
				goOn(t, d, j, w)
			}
		}
	}
}

// part does calls as far as the power goes.
func part(t *testing.T, d *block.Disk, j *Journal, w *told, l []call, fuse int) (*told, *told) {
	t.Helper()
	arm(t, d, fuse)
	after := w
	for _, c := range l {
		if w, after = step(t, j, d, w, c, fuse-d.Steps()); w.dead {
			break
		}
	}
	return w, after
}

// drawnCall is a call that may be, and now and then one that may not.
func drawnCall(r *rand.Rand) call {
	item := func() []byte {
		b := make([]byte, []int{0, 1, 42, 43, 85, r.Intn(200), r.Intn(60), 8401 - r.Intn(2)*r.Intn(8401)}[r.Intn(8)])
		r.Read(b)
		return b
	}
	c := call{save: r.Intn(3) == 0, list: [][]byte{item()}}
	for c.save && r.Intn(2) == 0 {
		c.list = append(c.list, item())
	}
	if c.save && r.Intn(8) == 0 {
		c.list = nil
	}
	return c
}

// Calls, fuses and crashes that are drawn, one behind the other on what the one before has left.
func TestDrawnCalls(t *testing.T) {
	r := rand.New(rand.NewSource(8))
	crashes, between := 0, 0
	for range 150 {
		d := disk(t, 16+r.Intn(30))
		j, w := open(t, d), &told{blocks: copyOf(d)}
		after, power := w, 1<<30
		for range 120 {
			switch r.Intn(12) {
			case 0:
				if fuse := r.Intn(12); d.Arm(fuse) == nil {
					power = fuse
				}
			case 1:
				was := w
				d = d.Crash(r.Intn(68) - 2)
				j = open(t, d)
				if w = isOne(j, w, after); w == nil {
					t.Fatalf("P8.2: epoch %d, %q, %q", j.Epoch(), j.Saved(), j.Records())
				}
				crashes++
				if w != was {
					between++
				}
				w = w.copy()
				w.blocks, w.dead, power = copyOf(d), false, 1<<30
				stands(t, "P8.1: opened behind a crash", j, opened(w.blocks))
			case 2:
				j = open(t, d)
				stands(t, "P8.3: opened again", j, w)
			default:
				steps := d.Steps()
				was := w.dead
				then := after
				w, after = step(t, j, d, w, drawnCall(r), power)
				if was {
					after = then
				}
				power -= d.Steps() - steps
			}
		}
	}
	if crashes < 500 || between < 5 {
		t.Errorf("P8.2: only %d crashes, of which %d left a call whole that was refused", crashes, between)
	}
}
