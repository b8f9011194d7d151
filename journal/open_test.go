package journal

import (
	"math/rand"
	"slices"
	"testing"

	"enfilade/api"
	"enfilade/block"
)

// rec: a record that somebody laid at a block.
type rec struct {
	at, kind, epoch, number int
	b                       []byte
}

// item, end and logRec are records of a save, and of the log.
func item(at, epoch, number int, s string) rec { return rec{at, 2, epoch, number, []byte(s)} }
func end(at, epoch, number int) rec            { return rec{at, 3, epoch, number, nil} }
func logRec(at, epoch, number int, s string) rec {
	return rec{at, 1, epoch, number, []byte(s)}
}

// laidDisk is a disk of 16 blocks (fields from 0 and 4 on, a log from 8 on) on which these records were laid, as far as it goes.
func laidDisk(t *testing.T, l []rec) *block.Disk {
	t.Helper()
	d := disk(t, 16)
	for _, x := range l {
		for _, w := range plan(copyOf(d), x.at, x.kind, x.epoch, x.number, x.b) {
			if w.at < 16 {
				answers(t, "Write", d.Write(w.at, w.b), nil)
			}
		}
	}
	return d
}

// texts is a list of bytes.
func texts(l ...string) [][]byte {
	var all [][]byte
	for _, s := range l {
		all = append(all, []byte(s))
	}
	return all
}

// Which saves stand, and which don't: both kinds, each with one thing off.
func TestOpenSaves(t *testing.T) {
	long := string(run(60))
	for what, x := range map[string]struct {
		laid  []rec
		epoch int
		save  [][]byte
	}{
		"a save of the second field":           {[]rec{item(4, 1, 0, "a"), end(5, 1, 1)}, 1, texts("a")},
		"a save of the first field":            {[]rec{item(0, 2, 0, "a"), item(1, 2, 1, ""), end(2, 2, 2)}, 2, texts("a", "")},
		"a save of nothing":                    {[]rec{end(4, 1, 0)}, 1, nil},
		"a save up to the field's end":         {[]rec{item(0, 4, 0, long), item(2, 4, 1, "b"), end(3, 4, 2)}, 4, texts(long, "b")},
		"both, the first one greater":          {[]rec{end(0, 2, 0), item(4, 1, 0, "a"), end(5, 1, 1)}, 2, nil},
		"both, the second one greater":         {[]rec{item(0, 2, 0, "a"), end(1, 2, 1), end(4, 3, 0)}, 3, nil},
		"both, far from one another":           {[]rec{item(0, 1<<31-2, 0, "a"), end(1, 1<<31-2, 1), end(4, 1, 0)}, 1<<31 - 2, texts("a")},
		"the greatest one":                     {[]rec{end(0, 1<<31-2, 0), item(4, 1<<31-1, 0, "z"), end(5, 1<<31-1, 1)}, 1<<31 - 1, texts("z")},
		"more behind the end":                  {[]rec{item(4, 1, 0, "a"), end(5, 1, 1), item(6, 1, 1, "b"), end(7, 1, 2)}, 1, texts("a")},
		"epoch 0":                              {[]rec{item(0, 0, 0, "a"), end(1, 0, 1)}, 0, nil},
		"an even epoch in the second field":    {[]rec{item(4, 2, 0, "a"), end(5, 2, 1)}, 0, nil},
		"an odd epoch in the first field":      {[]rec{item(0, 1, 0, "a"), end(1, 1, 1)}, 0, nil},
		"an odd epoch beside a lower one":      {[]rec{end(0, 9, 0), item(4, 1, 0, "a"), end(5, 1, 1)}, 1, texts("a")},
		"no end":                               {[]rec{item(4, 1, 0, "a"), item(5, 1, 1, "b")}, 0, nil},
		"no end beside a lower one":            {[]rec{item(4, 3, 0, "a"), item(0, 2, 0, "b"), end(1, 2, 1)}, 2, texts("b")},
		"a field full of items":                {[]rec{item(4, 1, 0, "a"), item(5, 1, 1, "b"), item(6, 1, 2, "c"), item(7, 1, 3, "d"), end(8, 1, 4)}, 0, nil},
		"an end in the other field":            {[]rec{item(0, 2, 0, "a"), item(1, 2, 1, "b"), item(2, 2, 2, "c"), item(3, 2, 3, "d"), end(4, 2, 4)}, 0, nil},
		"an item across the field's end":       {[]rec{item(0, 2, 0, long), item(2, 2, 1, string(run(90))), end(5, 2, 2)}, 0, nil},
		"an end of a greater number":           {[]rec{item(4, 1, 0, "a"), end(5, 1, 2)}, 0, nil},
		"an end of a lower number":             {[]rec{item(4, 1, 0, "a"), end(5, 1, 0)}, 0, nil},
		"an end of another epoch":              {[]rec{item(4, 1, 0, "a"), end(5, 3, 1)}, 0, nil},
		"an end of another kind":               {[]rec{item(4, 1, 0, "a"), {5, 4, 1, 1, nil}}, 0, nil},
		"an end with bytes":                    {[]rec{item(4, 1, 0, "a"), {5, 3, 1, 1, []byte("x")}}, 0, nil},
		"an end with bytes, of nothing":        {[]rec{{4, 3, 1, 0, []byte("x")}}, 0, nil},
		"an end with bytes, of several pieces": {[]rec{{4, 3, 1, 0, []byte(long)}}, 0, nil},
		"an item of another kind":              {[]rec{{4, 1, 1, 0, []byte("a")}, end(5, 1, 1)}, 0, nil},
		"an item of another epoch":             {[]rec{item(4, 1, 0, "a"), item(5, 3, 1, "b"), end(6, 1, 2)}, 0, nil},
		"items from 1 on":                      {[]rec{item(4, 1, 1, "a"), end(5, 1, 2)}, 0, nil},
		"a number twice":                       {[]rec{item(4, 1, 0, "a"), item(5, 1, 0, "b"), end(6, 1, 2)}, 0, nil},
		"items not in order":                   {[]rec{item(4, 1, 1, "a"), item(5, 1, 0, "b"), end(6, 1, 2)}, 0, nil},
		"a block too late":                     {[]rec{item(5, 1, 0, "a"), end(6, 1, 1)}, 0, nil},
		"a gap ahead of the end":               {[]rec{item(4, 1, 0, "a"), end(6, 1, 1)}, 0, nil},
		"an item without its last piece":       {[]rec{item(4, 1, 0, long), end(5, 1, 1)}, 0, nil},
		"an item without its first piece":      {[]rec{item(3, 1, 0, long), end(5, 1, 1)}, 0, nil},
		"a last piece of other bytes":          {[]rec{item(4, 1, 0, string(run(90))), item(4, 1, 0, long), end(7, 1, 1)}, 0, nil},
	} {
		d := laidDisk(t, x.laid)
		stands(t, "P8.1: Open, "+what, open(t, d), &told{blocks: copyOf(d), epoch: x.epoch, save: x.save})
		stands(t, "the second reading, "+what, open(t, d), opened(copyOf(d)))
	}
}

// The log's records go as far as they are right; the next one is laid behind these.
func TestOpenRecords(t *testing.T) {
	long := string(run(60))
	save := []rec{end(4, 3, 0)}
	for what, x := range map[string]struct {
		laid    []rec
		records [][]byte
	}{
		"none":                         {nil, nil},
		"several":                      {[]rec{logRec(8, 3, 0, "a"), logRec(9, 3, 1, long), logRec(11, 3, 2, "")}, texts("a", long, "")},
		"up to the disk's end":         {[]rec{logRec(8, 3, 0, string(run(300))), logRec(0, 2, 0, "x")}, texts(string(run(300)))},
		"across the disk's end":        {[]rec{logRec(8, 3, 0, string(run(250))), logRec(14, 3, 1, string(run(90)))}, texts(string(run(250)))},
		"of an earlier epoch":          {[]rec{logRec(8, 2, 0, "a")}, nil},
		"of a later epoch":             {[]rec{logRec(8, 4, 0, "a")}, nil},
		"of an earlier epoch, behind":  {[]rec{logRec(8, 3, 0, "a"), logRec(9, 0, 1, "b")}, texts("a")},
		"of another kind":              {[]rec{item(8, 3, 0, "a")}, nil},
		"an end":                       {[]rec{logRec(8, 3, 0, "a"), end(9, 3, 1)}, texts("a")},
		"from 1 on":                    {[]rec{logRec(8, 3, 1, "a")}, nil},
		"a number left out":            {[]rec{logRec(8, 3, 0, "a"), logRec(9, 3, 2, "b")}, texts("a")},
		"a number twice":               {[]rec{logRec(8, 3, 0, "a"), logRec(9, 3, 0, "b")}, texts("a")},
		"a gap":                        {[]rec{logRec(8, 3, 0, "a"), logRec(10, 3, 1, "b")}, texts("a")},
		"a block too late":             {[]rec{logRec(9, 3, 0, "a")}, nil},
		"cut by what stands behind":    {[]rec{logRec(8, 3, 0, long), logRec(9, 3, 7, "b")}, nil},
		"pieces of a longer one":       {[]rec{logRec(8, 3, 0, string(run(120))), logRec(8, 3, 0, long)}, texts(long)},
		"pieces of one that was there": {[]rec{logRec(8, 3, 0, "a"), logRec(9, 3, 1, long), logRec(8, 3, 0, long)}, texts(long)},
	} {
		d := laidDisk(t, append(slices.Clone(save), x.laid...))
		j, w := open(t, d), &told{blocks: copyOf(d), epoch: 3, records: x.records}
		stands(t, "P8.1: Open, "+what, j, w)
		stands(t, "the second reading, "+what, j, opened(copyOf(d)))
		if w.room() > 0 {
			step(t, j, d, w, call{false, texts("next")}, 1000)
			stands(t, "P8.3: opened again, "+what, open(t, d), &told{blocks: copyOf(d), epoch: 3, records: append(x.records, []byte("next"))})
		}
	}
	// Without a save those of epoch 0.
	d := laidDisk(t, []rec{logRec(8, 0, 0, "a"), logRec(9, 1, 1, "b")})
	stands(t, "P8.1: Open, epoch 0", open(t, d), &told{blocks: copyOf(d), records: texts("a")})
}

// No piece has a greater epoch than the greatest: behind it there is no room for a save.
func TestGreatestEpoch(t *testing.T) {
	const most = 1<<31 - 1
	d := laidDisk(t, []rec{item(0, most-1, 0, "a"), end(1, most-1, 1)})
	j, w := open(t, d), opened(copyOf(d))
	w, _ = step(t, j, d, w, call{true, texts("b")}, 1000)
	w, _ = step(t, j, d, w, call{false, texts("c")}, 1000)
	if w.epoch != most {
		t.Fatalf("the epoch is %d", w.epoch)
	}
	answers(t, "P8.1: Save behind the greatest epoch", j.Save(nil), api.ErrFull)
	answers(t, "P7: R2: the same, too long", j.Save(list(8401)), api.ErrLong)
	stands(t, "P7: R4: no save", j, w)
	stands(t, "P8.3: opened again", open(t, d), w)
}

// craft lays records on blocks that are nearly right, or right, whoever laid them.
func craft(r *rand.Rand, blocks [][]byte) {
	odd := func() int { return max(0, 1-r.Intn(30)) }
	for area := range 3 {
		at, end := start(len(blocks), area), start(len(blocks), area+1)
		epoch := 2*r.Intn(3) + area + odd()
		kind, items := 2, r.Intn(4)
		if area == 2 {
			kind, epoch, items = 1, r.Intn(6), 8
		}
		at += odd()
		for i := range items {
			at += put(blocks, at, plan(blocks, at, kind+odd(), epoch+2*odd(), i+odd(), run(r.Intn(90)))) - odd()
		}
		if area < 2 {
			at += put(blocks, at, plan(blocks, at, 3+odd(), epoch+2*odd(), items+odd(), run(odd()*r.Intn(50))))
		}
		if r.Intn(4) == 0 {
			x, y := start(len(blocks), area)+r.Intn(4), start(len(blocks), area)+r.Intn(4)
			blocks[x] = slices.Clone(blocks[y])
		}
		if r.Intn(8) == 0 {
			blocks[end-1-r.Intn(4)][r.Intn(64)] ^= 1 << r.Intn(8)
		}
	}
}

// put lays what has a block, and tells how much there was.
func put(blocks [][]byte, at int, l []write) int {
	for _, x := range l {
		if x.at < len(blocks) {
			blocks[x.at] = x.b
		}
	}
	return len(l)
}

// Open of blocks that nobody's calls would have laid so.
func TestCrafted(t *testing.T) {
	r := rand.New(rand.NewSource(81))
	seen := [8]int{}
	for range 6000 {
		d := disk(t, 16+r.Intn(16))
		blocks := copyOf(d)
		craft(r, blocks)
		for n, b := range blocks {
			if err := d.Write(n, b); err != nil {
				t.Fatalf("Write: %v", err)
			}
		}
		w := opened(blocks)
		stands(t, "P8.1: Open", open(t, d), w)
		seen[w.epoch]++
		if len(w.records) > 0 {
			seen[7]++
		}
	}
	for epoch, n := range seen {
		if n < 60 && epoch != 6 {
			t.Errorf("P8.1: of what was drawn only %d were of epoch %d", n, epoch)
		}
	}
}
