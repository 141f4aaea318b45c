package ctl

import (
	"rutter/api"
	"rutter/buf"
	"rutter/control"
	"rutter/store"
)

// The kinds of messages, which api tells as plain numbers, and of records, of which a row's is its message.
const (
	kindRow     = iota + 1 // a row
	kindAwake              // a port is awake, for a version
	kindTracked            // a port's flows that are tracked
	kindAdded              // a chassis that was added
	kindRemoved            // a chassis that was removed
	kindBoot               // a boot
)

const (
	wide     = 1 // the bytes of a kind, and of a chassis
	wideBoot = 5 // the bytes of a boot
)

// record is something that becomes so: a row, a chassis that comes or goes, or a boot.
type record struct {
	kind    int
	row     api.Row
	chassis int
	boot    int
}

// message are the bytes of the message of a row.
func message(r api.Row) []byte {
	// A store's rows, and what acts make of them, may all be.
	b, _ := control.Encode(api.Message{Kind: kindRow, Row: r})
	return b
}

// bytes are a record's, of what may become so.
func (r record) bytes() []byte {
	if r.kind == kindRow {
		return message(r.row)
	}
	w := (&buf.Writer{}).Put(wide, r.kind)
	if r.kind == kindBoot {
		w.Put(wideBoot, r.boot)
	} else {
		w.Put(wide, r.chassis)
	}
	b, _ := w.Done()
	return b
}

// read is the record of bytes, if they are one's.
func read(b []byte) (record, bool) {
	if m, e := control.Decode(b); e == api.OK {
		return record{kind: kindRow, row: m.Row}, m.Kind == kindRow
	}
	in := buf.Read(b)
	r := record{kind: in.Get(wide)}
	switch r.kind {
	case kindAdded, kindRemoved:
		r.chassis = in.Get(wide)
	case kindBoot:
		r.boot = in.Get(wideBoot)
	default:
		return record{}, false
	}
	return r, in.Done() == api.OK
}

// state is what the records say.
type state struct {
	store *store.Store
	boot  int // the last one; 0 ahead of the first
}

// each does something with all of a list.
func each[T any](l []T, do func(x T)) {
	for _, x := range l {
		do(x)
	}
}

// copied is the same state, that goes its own way.
func (s state) copied() state {
	next := state{store.New(), s.boot}
	each(s.store.Chassis(), func(n int) { next.store.Add(n) })
	var l []store.Change
	each(s.store.Rows(), func(r api.Row) { l = append(l, store.Change{Row: r}) })
	// A store's rows are all there with one another, in any order.
	next.store.Apply(l...)
	return next
}

// become does what a record says.
func (s *state) become(r record) api.Errno {
	switch r.kind {
	case kindRow:
		was, _ := s.store.Row(r.row.Port)
		return s.store.Apply(store.Change{Row: r.row, Was: was.Ver})
	case kindAdded:
		return s.store.Add(r.chassis)
	case kindRemoved:
		return s.store.Remove(r.chassis)
	}
	if r.boot <= s.boot {
		return api.ErrForm
	}
	s.boot = r.boot
	return api.OK
}
