package world

import (
	"rutter/api"
	"rutter/dpath"
	"rutter/tunnel"
)

// What happened.
const (
	awoke   = iota // the controller was told that a port is awake
	entered        // a guest's frame was looked at
	came           // a packet was looked at
	doubled        // data was doubled
)

// The kinds of outcomes of which there is more to be told.
const (
	delivered = 1
	sent      = 2
)

// Event is what happened.
type Event struct {
	What, Time, Chassis int
	Port, Ver           int
	Kind                api.Kind
	ID, Origin, From    int
	Done                int
	To, Gen, Stamp      int
}

// happens notes an event, which is now.
func (w *World) happens(x Event) {
	x.Time = w.now
	w.events = append(w.events, x)
}

// looks notes what became of what was looked at, and lets go on what is sent.
func (w *World) looks(x Event, o dpath.Outcome) {
	x.Done = o.Kind
	switch p := o.Packet; o.Kind {
	case delivered:
		x.Port, x.Gen, x.Stamp = o.Port, o.Gen, o.Stamp
	case sent:
		x.Port, x.Gen, x.To = p.Port, p.Gen, p.To
		// An outcome's packet may be.
		b, _ := tunnel.Encode(p)
		w.puts(data, p.To, b)
	}
	w.happens(x)
}
