package block

import (
	"math/rand"
	"testing"

	"enfilade/api"
)

// told is a second reading of the document's words: a disk as the list of what was done to it, out of which each answer is reckoned.
type told struct {
	blocks int
	first  map[int][64]byte
	done   []deed
}

// deed: a write (right by its number and its length), or a fuse.
type deed struct {
	fuse  bool
	steps int
	n     int
	bytes [64]byte
}

// goes tells, for each deed, whether there was power for it.
func (d *told) goes() []bool {
	l := make([]bool, len(d.done))
	steps, fuse, dead := 0, false, false
	for i, x := range d.done {
		if x.fuse {
			l[i] = !dead
			if !dead {
				fuse, steps = true, x.steps
			}
			continue
		}
		if fuse && steps == 0 {
			dead = true
		}
		l[i] = !dead
		steps--
	}
	return l
}

// block is what the last write that wasn't refused laid.
func (d *told) block(n int) [64]byte {
	goes := d.goes()
	for i := len(d.done) - 1; i >= 0; i-- {
		if x := d.done[i]; goes[i] && !x.fuse && x.n == n {
			return x.bytes
		}
	}
	return d.first[n]
}

// refused is the first write that was, and whether there is one.
func (d *told) refused() (deed, bool) {
	for i, goes := range d.goes() {
		if !goes && !d.done[i].fuse {
			return d.done[i], true
		}
	}
	return deed{}, false
}

// steps is how many writes weren't refused.
func (d *told) steps() int {
	n := 0
	for i, goes := range d.goes() {
		if goes && !d.done[i].fuse {
			n++
		}
	}
	return n
}

// do adds a deed, and answers what the call should.
func (d *told) do(x deed) error {
	d.done = append(d.done, x)
	if goes := d.goes(); !goes[len(goes)-1] {
		return api.ErrDead
	}
	return nil
}

func (d *told) write(n int, b []byte) error {
	switch {
	case n < 0 || n > d.blocks-1:
		return api.ErrRange
	case len(b) > 64:
		return api.ErrLong
	}
	x := deed{n: n}
	for i, c := range b {
		x.bytes[i] = c
	}
	return d.do(x)
}

func (d *told) arm(steps int) error {
	if steps < 0 {
		return api.ErrRange
	}
	return d.do(deed{fuse: true, steps: steps})
}

func (d *told) crash(torn int) *told {
	after := &told{blocks: d.blocks, first: map[int][64]byte{}}
	for n := range d.blocks {
		after.first[n] = d.block(n)
	}
	if x, ok := d.refused(); ok {
		b := after.first[x.n]
		for i := range b {
			if i < torn {
				b[i] = x.bytes[i]
			}
		}
		after.first[x.n] = b
	}
	return after
}

// agree holds all that a disk tells against what it should.
func agree(t *testing.T, d *Disk, w *told) {
	t.Helper()
	_, dead := w.refused()
	if d.Len() != w.blocks || d.Dead() != dead || d.Steps() != w.steps() {
		t.Fatalf("P6.1: %d blocks, dead %v, %d steps; not %d, %v, %d", d.Len(), d.Dead(), d.Steps(), w.blocks, dead, w.steps())
	}
	for n := range w.blocks {
		if want := w.block(n); text(t, d, n) != string(want[:]) {
			t.Fatalf("P6.1: block %d: %q, not %q", n, text(t, d, n), want)
		}
	}
}

// drawn are bytes of any length that may be, and now and then of one that may not.
func drawn(r *rand.Rand) []byte {
	b := make([]byte, []int{0, 1, 2, 10, 63, 64, 65, r.Intn(65)}[r.Intn(8)])
	for i := range b {
		b[i] = byte(r.Intn(256))
	}
	return b
}

// Lists of calls that are drawn, each answer held against the second reading.
func TestDrawnCalls(t *testing.T) {
	r := rand.New(rand.NewSource(6))
	for range 400 {
		blocks := 1 + r.Intn(4)
		d, w := disk(t, blocks), &told{blocks: blocks}
		for range 30 {
			switch r.Intn(10) {
			case 0:
				steps := r.Intn(8) - 1
				if got, want := d.Arm(steps), w.arm(steps); got != want {
					t.Fatalf("P6.1: Arm(%d): %v, not %v", steps, got, want)
				}
			case 1:
				torn := r.Intn(70) - 3
				was, told := d, w
				d, w = d.Crash(torn), w.crash(torn)
				agree(t, was, told)
			default:
				n, b := r.Intn(blocks+2)-1, drawn(r)
				if got, want := d.Write(n, b), w.write(n, b); got != want {
					t.Fatalf("P6.1: Write(%d, %q): %v, not %v", n, b, got, want)
				}
			}
			agree(t, d, w)
		}
	}
}

// The power goes at each write of a list, with each number of bytes laid.
func TestPowerGoesAnywhere(t *testing.T) {
	r := rand.New(rand.NewSource(62))
	const blocks, writes = 3, 8
	at, what := make([]int, writes), make([][64]byte, writes)
	for i := range writes {
		at[i] = r.Intn(blocks)
		for k := range what[i] {
			what[i][k] = byte(1 + r.Intn(255))
		}
	}
	for fuse := range writes + 1 {
		d := disk(t, blocks)
		arm(t, d, fuse)
		var want [blocks][64]byte
		for i := range writes {
			err := d.Write(at[i], what[i][:])
			if (err == nil) != (i < fuse) {
				t.Fatalf("P6.2: write %d with a fuse of %d: %v", i, fuse, err)
			}
			if err == nil {
				want[at[i]] = what[i]
			}
		}
		for torn := range 65 {
			left := want
			for k := 0; fuse < writes && k < torn; k++ {
				left[at[fuse]][k] = what[fuse][k]
			}
			after := d.Crash(torn)
			for n := range blocks {
				if text(t, after, n) != string(left[n][:]) {
					t.Fatalf("P6.2: fuse %d, torn %d, block %d: %q", fuse, torn, n, text(t, after, n))
				}
			}
		}
	}
}
