package record

import (
	"bytes"
	"encoding/binary"
	"hash/fnv"
	"math/rand"
)

// told is a second reading of the document's words: the 64 bytes in their order, laid behind one another, of fields of which nothing is checked.
type told struct {
	mark, kind          byte
	epoch, number       uint32
	part, parts, length byte
	space               [42]byte // the data, and what stands behind
	off                 uint64   // what the sum is turned by
	last                byte     // what the second mark is turned by
}

func (x told) block() []byte {
	head := []byte{x.kind}
	head = binary.BigEndian.AppendUint32(head, x.epoch)
	head = binary.BigEndian.AppendUint32(head, x.number)
	head = append(head, x.part, x.parts, x.length)
	h := fnv.New64a()
	h.Write(head)
	h.Write(x.space[:min(int(x.length), 42)])
	b := append([]byte{x.mark}, head...)
	b = binary.BigEndian.AppendUint64(b, h.Sum64()^x.off)
	b = append(b, x.space[:]...)
	return append(b, x.mark^x.last)
}

// toldOf is a piece, as told, with a mark.
func toldOf(p Piece, mark byte) told {
	x := told{mark: mark, kind: byte(p.Kind), epoch: uint32(p.Epoch), number: uint32(p.Number), part: byte(p.Part), parts: byte(p.Parts), length: byte(len(p.Data))}
	copy(x.space[:], p.Data)
	return x
}

// pieces is how bytes are cut, one byte behind the other.
func pieces(kind, epoch, number int, b []byte) []Piece {
	l := []Piece{{Kind: kind, Epoch: epoch, Number: number}}
	for _, c := range b {
		if len(l[len(l)-1].Data) == 42 {
			l = append(l, Piece{Kind: kind, Epoch: epoch, Number: number, Part: len(l)})
		}
		l[len(l)-1].Data = append(l[len(l)-1].Data, c)
	}
	for i := range l {
		l[i].Parts = len(l)
	}
	return l
}

// same: are two pieces one (of no data nil, too)?
func same(p, q Piece) bool {
	return p.Kind == q.Kind && p.Epoch == q.Epoch && p.Number == q.Number && p.Part == q.Part && p.Parts == q.Parts && bytes.Equal(p.Data, q.Data)
}

// run is so many bytes, of which each differs from the next.
func run(n int) []byte {
	b := make([]byte, n)
	for i := range b {
		b[i] = byte(i%251 + 1)
	}
	return b
}

// maker makes pieces that may be.
type maker struct{ *rand.Rand }

func (m maker) oneOf(l ...int) int { return l[m.Intn(len(l))] }

func (m maker) piece() Piece {
	p := Piece{
		Kind:   m.oneOf(1, 2, 3, 255, 1+m.Intn(255)),
		Epoch:  m.oneOf(0, 1, 255, 256, 1<<31-1, m.Intn(1<<31)),
		Number: m.oneOf(0, 1, 65535, 65536, 1<<31-1, m.Intn(1<<31)),
		Parts:  m.oneOf(1, 2, 200, 1+m.Intn(200)),
	}
	p.Part = m.oneOf(0, p.Parts-1, m.Intn(p.Parts))
	length := 42
	if p.Part == p.Parts-1 {
		length = m.oneOf(0, 1, 41, 42, m.Intn(43))
	}
	p.Data = make([]byte, length)
	m.Read(p.Data)
	return p
}
