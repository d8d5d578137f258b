package table

import (
	"bytes"

	"bootjack/api"
	"bootjack/code"
	"bootjack/slot"
)

const (
	smallSize   = 1 // bytes of a count, of a kind, and of which slot
	versionSize = 8
)

// Bytes: a table as bytes.
func Bytes(t api.Table) []byte {
	if !Right(t) {
		return nil
	}
	b := code.Raw(nil, slot.Bytes(t.Slots[0]), slot.Bytes(t.Slots[1]))
	b = putSmall(b, t.Active)
	b = putSmall(b, t.Booted-none)
	return code.Fixed(b, t.Floor, versionSize)
}

// Parse: the table of bytes.
func Parse(b []byte) (api.Table, api.Errno) {
	t := readTable(code.New(b))
	if !told(Bytes(t), b) {
		return api.Table{}, api.ErrTable
	}
	return t, api.OK
}

// readTable may take bytes for a table's that are none: Parse holds the table's Bytes against all of them.
func readTable(r *code.Reader) api.Table {
	var t api.Table
	for i := range t.Slots {
		t.Slots[i], _ = slot.Read(r)
	}
	t.Active = readSmall(r)
	t.Booted = readSmall(r) + none
	t.Floor = r.Fixed(versionSize)
	return t
}

// Put: a transaction as bytes.
func Put(l ...api.Change) []byte {
	if !isTransaction(l) {
		return nil
	}
	b := putSmall(nil, len(l))
	for _, c := range l {
		b = putChange(putSmall(b, c.Kind), c)
	}
	return b
}

// putChange: the fields that its kind has.
func putChange(b []byte, c api.Change) []byte {
	switch c.Kind {
	case api.SetSlot:
		return code.Raw(putSmall(b, c.Slot), slot.Bytes(c.To))
	case api.SetActive:
		return putSmall(b, c.N)
	case api.SetBooted:
		return putSmall(b, c.N-none)
	}
	return code.Fixed(b, c.Version, versionSize)
}

// Get: the transaction of bytes.
func Get(b []byte) ([]api.Change, api.Errno) {
	l := readChanges(code.New(b))
	if !told(Put(l...), b) {
		return nil, api.ErrTable
	}
	return l, api.OK
}

// readChanges may take bytes for a transaction's that are none: Get holds what Put makes of it against all of them.
func readChanges(r *code.Reader) []api.Change {
	l := make([]api.Change, readSmall(r))
	for i := range l {
		l[i] = readChange(r)
	}
	return l
}

func readChange(r *code.Reader) api.Change {
	c := api.Change{Kind: readSmall(r)}
	switch c.Kind {
	case api.SetSlot:
		c.Slot = readSmall(r)
		c.To, _ = slot.Read(r)
	case api.SetActive:
		c.N = readSmall(r)
	case api.SetBooted:
		c.N = readSmall(r) + none
	case api.SetFloor:
		c.Version = r.Fixed(versionSize)
	}
	return c
}

// told: no bytes at all are what Bytes and Put tell of what can't be, and so they are nothing's.
func told(own, b []byte) bool {
	return len(b) > 0 && bytes.Equal(own, b)
}

func putSmall(b []byte, n int) []byte {
	return code.Fixed(b, uint64(n), smallSize)
}

func readSmall(r *code.Reader) int {
	return int(r.Fixed(smallSize))
}
