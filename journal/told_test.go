package journal

import (
	"bytes"
	"encoding/binary"
	"hash/fnv"

	"enfilade/api"
	"enfilade/block"
)

// told is a second reading of the document's words: a journal as the bytes of its blocks, and what it should have.
type told struct {
	blocks        [][]byte
	epoch         int
	save, records [][]byte
	dead          bool
}

// write: what is laid on a block.
type write struct {
	at int
	b  []byte
}

// cut is the data of the pieces of bytes, one byte behind the other.
func cut(b []byte) [][]byte {
	l := [][]byte{nil}
	for _, c := range b {
		if len(l[len(l)-1]) == 42 {
			l = append(l, nil)
		}
		l[len(l)-1] = append(l[len(l)-1], c)
	}
	return l
}

// pieceBlock is a piece's block, of numbers of which nothing is checked.
func pieceBlock(mark byte, kind, epoch, number, part, parts int, data []byte) []byte {
	head := []byte{byte(kind)}
	head = binary.BigEndian.AppendUint32(head, uint32(epoch))
	head = binary.BigEndian.AppendUint32(head, uint32(number))
	head = append(head, byte(part), byte(parts), byte(len(data)))
	h := fnv.New64a()
	h.Write(head)
	h.Write(data)
	b := append([]byte{mark}, head...)
	b = binary.BigEndian.AppendUint64(b, h.Sum64())
	b = append(b, data...)
	b = append(b, make([]byte, 42-len(data))...)
	return append(b, mark)
}

// start is where the first field (0), the second (1) and the log (2) begin; all ends at 3.
func start(n, area int) int { return []int{0, n / 4, n / 4 * 2, n}[area] }

// plan is what is laid for a record, from a block on.
func plan(blocks [][]byte, at, kind, epoch, number int, b []byte) []write {
	var l []write
	data := cut(b)
	for i, x := range data {
		// What hasn't a block is laid nowhere: there is no room for it.
		var mark byte
		if at+i < len(blocks) {
			mark = blocks[at+i][63] + 1
		}
		l = append(l, write{at + i, pieceBlock(mark, kind, epoch, number, i, len(data), x)})
	}
	return l
}

// used is how many blocks the records take.
func (w *told) used() int {
	n := 0
	for _, b := range w.records {
		n += len(cut(b))
	}
	return n
}

func (w *told) room() int { return len(w.blocks) - start(len(w.blocks), 2) - w.used() }

// append is what should be laid for a record more, or the error, and what stands then.
func (w *told) append(b []byte) ([]write, *told, error) {
	if w.dead {
		return nil, w, api.ErrDead
	}
	if len(b) > 8400 {
		return nil, w, api.ErrLong
	}
	l := plan(w.blocks, start(len(w.blocks), 2)+w.used(), 1, w.epoch, len(w.records), b)
	if len(l) > w.room() {
		return nil, w, api.ErrFull
	}
	after := w.copy()
	after.records = append(after.records, bytes.Clone(b))
	return l, after, nil
}

// saveList is what should be laid for a save, or the error, and what stands then.
func (w *told) saveList(list [][]byte) ([]write, *told, error) {
	if w.dead {
		return nil, w, api.ErrDead
	}
	for _, b := range list {
		if len(b) > 8400 {
			return nil, w, api.ErrLong
		}
	}
	area := (w.epoch + 1) % 2
	at := start(len(w.blocks), area)
	var l []write
	for i, b := range list {
		l = append(l, plan(w.blocks, at+len(l), 2, w.epoch+1, i, b)...)
	}
	l = append(l, plan(w.blocks, at+len(l), 3, w.epoch+1, len(list), nil)...)
	if len(l) > start(len(w.blocks), area+1)-at {
		return nil, w, api.ErrFull
	}
	after := w.copy()
	after.epoch, after.save, after.records = w.epoch+1, copied(list), nil
	return l, after, nil
}

// copy is another one of the same, in new memory.
func (w *told) copy() *told {
	return &told{blocks: copied(w.blocks), epoch: w.epoch, save: copied(w.save), records: copied(w.records), dead: w.dead}
}

// lay is what stands once so many bytes of these writes, 64 of each, are laid.
func lay(blocks [][]byte, l []write, n int) [][]byte {
	blocks = copied(blocks)
	for _, x := range l {
		for i := range x.b {
			if n > 0 {
				blocks[x.at][i] = x.b[i]
			}
			n--
		}
	}
	return blocks
}

// recordAt is the record of a kind, epoch and number at a block: so many blocks, ahead of the end, that just these would be laid of the bytes on them.
func recordAt(blocks [][]byte, at, end, kind, epoch, number int) ([]byte, int) {
	var b []byte
	for n := 1; n <= 200 && at+n <= end; n++ {
		x := blocks[at+n-1]
		if x[12] > 42 {
			break
		}
		b = append(b, x[21:21+x[12]]...)
		data := cut(b)
		fits := len(data) == n
		for i := 0; fits && i < n; i++ {
			fits = bytes.Equal(blocks[at+i], pieceBlock(blocks[at+i][0], kind, epoch, number, i, n, data[i]))
		}
		if fits {
			return b, n
		}
	}
	return nil, 0
}

// listAt is the bytes of records from a block on, and the block behind them.
func listAt(blocks [][]byte, at, end, kind, epoch int) ([][]byte, int) {
	var l [][]byte
	for {
		b, n := recordAt(blocks, at, end, kind, epoch, len(l))
		if n == 0 {
			return l, at
		}
		l = append(l, b)
		at += n
	}
}

// opened is what a journal that is opened on these blocks should have.
func opened(blocks [][]byte) *told {
	w := &told{blocks: copied(blocks)}
	n := len(blocks)
	for area := range 2 {
		// Whatever stands as an epoch anywhere is tried.
		for _, b := range blocks {
			epoch := int(binary.BigEndian.Uint32(b[2:]))
			if epoch <= w.epoch || epoch > 1<<31-1 || epoch%2 != area {
				continue
			}
			l, at := listAt(blocks, start(n, area), start(n, area+1), 2, epoch)
			if b, parts := recordAt(blocks, at, start(n, area+1), 3, epoch, len(l)); parts == 1 && len(b) == 0 {
				w.epoch, w.save = epoch, l
			}
		}
	}
	w.records, _ = listAt(blocks, start(n, 2), n, 1, w.epoch)
	return w
}

// copyOf is the bytes of a disk's blocks.
func copyOf(d *block.Disk) [][]byte {
	l := make([][]byte, d.Len())
	for i := range l {
		l[i], _ = d.Read(i)
	}
	return l
}
