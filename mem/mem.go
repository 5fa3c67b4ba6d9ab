// Package mem implements a flat memory of bytes and cells: layer 1, see shared/doc/01-mem.md.
package mem

import (
	"slices"

	"shed/api"
)

// Mem is a memory; a nil one has no bytes.
type Mem struct {
	bytes []byte
}

// New returns a memory of size bytes 0.
func New(size int64) (*Mem, api.Code) {
	if size < 0 || size > api.MaxMem || size%api.Cell != 0 {
		return nil, api.Argument
	}
	return &Mem{bytes: make([]byte, size)}, api.OK
}

// Size returns the number of bytes.
func (m *Mem) Size() int64 {
	if m == nil {
		return 0
	}
	return int64(len(m.bytes))
}

// Cell returns the number of the cell at a.
func (m *Mem) Cell(a int64) (int64, api.Code) {
	if e := m.cellAt(a); e != api.OK {
		return 0, e
	}
	var n uint64
	for i := range int64(api.Cell) {
		n |= uint64(m.bytes[a+i]) << (8 * i)
	}
	return int64(n), api.OK
}

// SetCell sets the cell at a to n.
func (m *Mem) SetCell(a, n int64) api.Code {
	if e := m.cellAt(a); e != api.OK {
		return e
	}
	for i := range int64(api.Cell) {
		m.bytes[a+i] = byte(uint64(n) >> (8 * i))
	}
	return api.OK
}

// Byte returns the byte at a.
func (m *Mem) Byte(a int64) (int64, api.Code) {
	if !m.has(a, 1) {
		return 0, api.Address
	}
	return int64(m.bytes[a]), api.OK
}

// SetByte sets the byte at a to n, modulo 256.
func (m *Mem) SetByte(a, n int64) api.Code {
	if !m.has(a, 1) {
		return api.Address
	}
	m.bytes[a] = byte(n)
	return api.OK
}

// Text returns n bytes from a on.
func (m *Mem) Text(a, n int64) (string, api.Code) {
	if !m.has(a, n) {
		return "", api.Address
	}
	if n == 0 {
		return "", api.OK
	}
	return string(m.bytes[a : a+n]), api.OK
}

// SetText writes s from a on.
func (m *Mem) SetText(a int64, s string) api.Code {
	if !m.has(a, int64(len(s))) {
		return api.Address
	}
	if s != "" {
		copy(m.bytes[a:], s)
	}
	return api.OK
}

// Clone returns an independent copy.
func (m *Mem) Clone() *Mem {
	if m == nil {
		return nil
	}
	return &Mem{bytes: slices.Clone(m.bytes)}
}

// has reports whether n bytes exist from a on. The sum of both may overflow, so it isn't formed.
func (m *Mem) has(a, n int64) bool {
	return a >= 0 && n >= 0 && n <= m.Size() && a <= m.Size()-n
}

// cellAt returns the code of an access to the cell at a.
func (m *Mem) cellAt(a int64) api.Code {
	if !m.has(a, api.Cell) {
		return api.Address
	}
	if a%api.Cell != 0 {
		return api.Align
	}
	return api.OK
}
