package ctl

import (
	"rutter/api"
	"rutter/phase"
	"rutter/store"
)

// asked is what a call makes of a store at a time, if the store takes it: of a query nothing but the row, of kind 0.
func asked(s *store.Store, x api.Call, now int) (record, api.Errno) {
	switch x.Op {
	case api.AddChassis:
		return record{kind: kindAdded, chassis: x.Chassis}, api.OK
	case api.RemoveChassis:
		return record{kind: kindRemoved, chassis: x.Chassis}, api.OK
	case api.Query:
		r, e := living(s, x.Port)
		return record{row: r}, e
	case api.AddPort:
		return became(bind(s, x, now))
	case api.RemovePort, api.Start, api.Commit, api.Abort:
		return became(move(s, x, now))
	}
	return record{}, api.ErrArg
}

// became is the record of a row that an act made.
func became(r api.Row, e api.Errno) (record, api.Errno) {
	return record{kind: kindRow, row: r}, e
}

// living is a port's row, if it has one that is not gone.
func living(s *store.Store, port int) (api.Row, api.Errno) {
	r, there := s.Row(port)
	if !there || r.Phase == api.Gone {
		return api.Row{}, api.ErrNone
	}
	return r, api.OK
}

// bind is what the row of a port becomes that is added.
func bind(s *store.Store, x api.Call, now int) (api.Row, api.Errno) {
	r, there := s.Row(x.Port)
	switch {
	case !there:
		return phase.New(x.Port, x.MAC, x.Chassis, now)
	case r.Phase != api.Gone:
		return api.Row{}, api.ErrTwice
	}
	return phase.Again(r, x.MAC, x.Chassis, now)
}

// move is what the row of a port becomes that is there.
func move(s *store.Store, x api.Call, now int) (api.Row, api.Errno) {
	r, e := living(s, x.Port)
	if e != api.OK {
		return api.Row{}, e
	}
	switch x.Op {
	case api.RemovePort:
		return phase.Drop(r, now)
	case api.Start:
		return phase.Start(r, x.Chassis, now)
	case api.Commit:
		return phase.Commit(r, now)
	}
	return phase.Abort(r, now)
}
