package journal

import (
	"enfilade/block"
	"enfilade/record"
)

// field: blocks of a disk that follow one another.
type field struct {
	disk        *block.Disk
	first, size int
}

// lay lays a piece on its block of that number.
func (f field) lay(n int, p record.Piece) error {
	old, err := f.disk.Read(f.first + n)
	if err != nil {
		return err
	}
	// By another mark than the one that stands last there a block that is laid in part shows as such.
	b, err := p.Block(old[len(old)-1] + 1)
	if err != nil {
		return err
	}
	return f.disk.Write(f.first+n, b)
}

// save: the save that stands in the field of that number, and its epoch; epoch 0, if there is none.
func (f field) save(number int) (int, [][]byte) {
	r := reader{field: f}
	p, ok := r.peek(0)
	if !ok || p.Epoch < 1 || p.Epoch%2 != number {
		return 0, nil
	}
	l := r.list(saved, p.Epoch)
	end, ok := r.next(ended, p.Epoch, len(l))
	if !ok || len(end) > 0 {
		return 0, nil
	}
	return p.Epoch, l
}

// reader: a field that is read, record by record.
type reader struct {
	field
	at int // the block that it has come to
}

// list: the bytes of the records that come next, of this kind and epoch, with numbers from 0 on.
func (r *reader) list(kind, epoch int) [][]byte {
	var l [][]byte
	for {
		b, ok := r.next(kind, epoch, len(l))
		if !ok {
			return l
		}
		l = append(l, b)
	}
}

// next: the bytes of the record that comes next, if it is of this kind, epoch and number; then the reader is behind it.
func (r *reader) next(kind, epoch, number int) ([]byte, bool) {
	p, ok := r.peek(0)
	if !ok || p.Kind != kind || p.Epoch != epoch || p.Number != number {
		return nil, false
	}
	l := []record.Piece{p}
	for len(l) < p.Parts {
		q, ok := r.peek(len(l))
		if !ok {
			return nil, false
		}
		l = append(l, q)
	}
	b, err := record.Join(l)
	if err != nil {
		return nil, false
	}
	r.at += len(l)
	return b, true
}

// peek: the piece that stands so many blocks behind the one that it has come to, if there is such a block, and it is whole.
func (r *reader) peek(behind int) (record.Piece, bool) {
	n := r.at + behind
	if n >= r.size {
		return record.Piece{}, false
	}
	b, err := r.disk.Read(r.first + n)
	if err != nil {
		return record.Piece{}, false
	}
	p, _, err := record.Read(b)
	return p, err == nil
}
