package code

import (
	"bytes"
	"encoding/binary"
	"math"
	"math/rand"
	"testing"

	"corsned/api"
)

// some tells so many bytes of no rule, always the same ones.
func some(size int) []byte {
	b := make([]byte, size)
	rand.New(rand.NewSource(int64(size))).Read(b)
	return b
}

// sumOf tells a sum of no rule, always the same one.
func sumOf(seed int) api.Hash { return api.Hash(some(seed + 32)[seed:]) }

// numbers are those at which a row grows, or a byte of eight, and their neighbours.
func numbers() []int {
	all := []int{0, 1, 2, 9, 100, 300, api.MaxCoin, api.MaxHeight, math.MaxInt - 1, math.MaxInt}
	for bit := range 63 {
		n := 1 << bit
		all = append(all, n-1, n, n+1, n+n/2)
	}
	return all
}

// wrongs are numbers that have no row.
func wrongs() []int {
	return []int{-1, -2, -127, -128, -129, -255, -256, -300, -1 << 31, -1 << 32, -1 << 62, math.MinInt + 1, math.MinInt}
}

// sizes are numbers of bytes at which their row grows, and others.
func sizes() []int {
	return []int{0, 1, 2, 7, 8, 9, 31, 32, 33, 126, 127, 128, 129, 300, 16383, 16384, 16385}
}

// rowOf tells the row of a number, made by the library.
func rowOf(n int) []byte {
	if n < 0 {
		return nil
	}
	return binary.AppendUvarint(nil, uint64(n))
}

// A part is what was laid, or read: of its kind alone.
type part struct {
	kind string
	n    int
	u    uint64
	b    []byte
	h    api.Hash
}

func (p part) same(q part) bool {
	return p.kind == q.kind && p.n == q.n && p.u == q.u && bytes.Equal(p.b, q.b) && p.h == q.h
}

// laid lays a part by the package.
func (p part) laid(b []byte) []byte {
	switch p.kind {
	case "num":
		return Put(b, p.n)
	case "u64":
		return PutU64(b, p.u)
	case "bytes":
		return PutBytes(b, p.b)
	}
	return PutHash(b, p.h)
}

// kinds are all kinds of parts.
var kinds = []string{"num", "u64", "bytes", "hash"}

// read reads a part of a kind by the package.
func read(r *Reader, kind string) part {
	switch kind {
	case "num":
		return part{kind: kind, n: r.Num()}
	case "u64":
		return part{kind: kind, u: r.U64()}
	case "bytes":
		return part{kind: kind, b: r.Bytes()}
	}
	return part{kind: kind, h: r.Hash()}
}

// A model is a reader that is made without the package.
type model struct {
	rest   []byte
	failed bool
}

// row tells the number whose row stands next, and how long it is: 0 if none does.
func (m *model) row() (int, int) {
	for size := 1; size <= len(m.rest); size++ {
		n, _ := binary.Uvarint(m.rest[:size])
		if n <= math.MaxInt && bytes.Equal(binary.AppendUvarint(nil, n), m.rest[:size]) {
			return int(n), size
		}
		if m.rest[size-1] < 128 {
			break
		}
	}
	return 0, 0
}

// read tells what has to be read.
func (m *model) read(kind string) part {
	p, size := part{kind: kind}, 0
	switch kind {
	case "num":
		p.n, size = m.row()
	case "u64":
		if len(m.rest) >= 8 {
			p.u, size = binary.BigEndian.Uint64(m.rest), 8
		}
	case "bytes":
		if n, ahead := m.row(); ahead > 0 && n <= len(m.rest)-ahead {
			p.b, size = m.rest[ahead:ahead+n], ahead+n
		}
	default:
		if len(m.rest) >= 32 {
			p.h, size = api.Hash(m.rest), 32
		}
	}
	m.rest = m.rest[size:]
	if size == 0 {
		m.rest, m.failed = nil, true
	}
	return p
}

// followed reads bytes by the package and by the model, and holds each answer.
func followed(t *testing.T, b []byte, row ...string) {
	t.Helper()
	r, m := Open(b), &model{rest: b}
	for i, kind := range row {
		if r.Left() != len(m.rest) || r.Ok() == m.failed {
			t.Fatalf("%.40x, %v: %d left, %t ahead of part %d", b, row, r.Left(), r.Ok(), i)
		}
		if got, want := read(r, kind), m.read(kind); !got.same(want) {
			t.Fatalf("%.40x, %v: part %d is %v, not %v", b, row, i, got, want)
		}
	}
	if r.Left() != len(m.rest) || r.Ok() == m.failed {
		t.Fatalf("%.40x, %v: %d left, %t at the end", b, row, r.Left(), r.Ok())
	}
}
