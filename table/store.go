package table

import (
	"bootjack/api"
	"bootjack/journal"
	"bootjack/part"
)

// Store is a table that is kept.
type Store struct {
	journal *journal.Journal // of a table's bytes, and transactions behind them
	table   api.Table
}

// Open: what is kept.
func Open(m *part.Map, a, b int, first api.Table) (*Store, api.Errno) {
	if !Right(first) {
		return nil, api.ErrTable
	}
	j, bodies := journal.Open(m, a, b)
	return &Store{journal: j, table: kept(first, bodies)}, api.OK
}

// kept: the table of bodies; first, where they tell none.
func kept(first api.Table, bodies [][]byte) api.Table {
	if len(bodies) == 0 {
		return first
	}
	t, e := Parse(bodies[0])
	if e != api.OK {
		return first
	}
	for _, body := range bodies[1:] {
		next, e := behind(t, body)
		// What stands behind one that is none was meant for a table that isn't known.
		if e != api.OK {
			return t
		}
		t = next
	}
	return t
}

// behind: a table behind a body's transaction.
func behind(t api.Table, body []byte) (api.Table, api.Errno) {
	l, e := Get(body)
	if e != api.OK {
		return api.Table{}, e
	}
	return Apply(t, l...)
}

// Table: what is known.
func (s *Store) Table() api.Table { return s.table }

// Do: a transaction.
func (s *Store) Do(l ...api.Change) api.Errno {
	next, e := Apply(s.table, l...)
	if e != api.OK {
		return e
	}
	if e := s.keep(next, l); e != api.OK {
		return e
	}
	s.table = next
	return api.OK
}

// keep: the changes behind all others, or, where they can't come there, the table that they make anew.
func (s *Store) keep(next api.Table, l []api.Change) api.Errno {
	if s.journal.Ready() {
		if e := s.journal.Append(Put(l...)); e != api.ErrFull {
			return e
		}
	}
	return s.journal.Begin(Bytes(next))
}

// Left: how many sectors.
func (s *Store) Left() int { return s.journal.Left() }
