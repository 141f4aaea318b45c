package world_test

import (
	"testing"

	"rutter/api"
	"rutter/world"
)

// fileRoom is the room of a world's file.
const fileRoom = 1 << 20

// written is a town in which port 4 is moving to 0, and whose file has room for so many bytes more.
func written(t testing.TB, room int) *world.World {
	t.Helper()
	w := town(t)
	does(t, w, asks(api.Start, 4, 0))
	left := fileRoom - bootRoom - 4*chassisRoom - 3*rowRoom - room
	// A chassis takes another number of bytes than a row.
	for next := adds(9); left%rowRoom != 0; left -= chassisRoom {
		does(t, w, next)
		next.Op = api.RemoveChassis - next.Op
	}
	for next := api.Start; left > 0; left -= rowRoom {
		does(t, w, asks(next, 3, 2))
		next = api.Start + api.Abort - next
	}
	return w
}

// TestFileRoom: P19.1: the file has so much room: a call whose record just has none is told ErrFull, and changes nothing; one that has some is done.
func TestFileRoom(t *testing.T) {
	w := written(t, rowRoom-1)
	stays(t, w, "API", api.ErrFull, func() api.Errno { _, e := w.API(asks(api.Abort, 4, 0)); return e })
	stays(t, w, "API", api.ErrFull, func() api.Errno { _, e := w.API(asks(api.AddPort, 9, 1)); return e })
	ticks(t, w, span)
	if r := row(w.Ctl(), 4); r != moving(4, 2, 0, 1, 2) {
		t.Errorf("late, without room: %+v", r)
	}
	// Room for a chassis, four times, and 2 bytes.
	for i := range 4 {
		does(t, w, adds(10+i))
	}
	stays(t, w, "API", api.ErrFull, func() api.Errno { _, e := w.API(adds(14)); return e })
	halts(t, w, adds(14), 99, api.ErrFull)
	stays(t, w, "Start", api.ErrFull, func() api.Errno { return w.Start(nobody) })
}

// TestFileRoomToTheLastByte: P19.1: what just has room, of a row, and of a boot, is done.
func TestFileRoomToTheLastByte(t *testing.T) {
	w := written(t, rowRoom)
	if r := does(t, w, asks(api.Abort, 4, 0)); r != bound(4, 2, 1, 3) {
		t.Errorf("Abort: %+v", r)
	}
	stays(t, w, "API", api.ErrFull, func() api.Errno { _, e := w.API(adds(14)); return e })
	w = written(t, bootRoom)
	crashes(t, w, nobody)
	starts(t, w, nobody)
	if r := row(w.Ctl(), 4); r != moving(4, 2, 0, 1, 2) || w.Ctl().Boot() != 2 {
		t.Errorf("boot %d, %+v", w.Ctl().Boot(), r)
	}
	stays(t, w, "API", api.ErrFull, func() api.Errno { _, e := w.API(adds(14)); return e })
}

// TestNoRoomToStart: P19.1: a controller whose file has no room for its boot isn't started, and stays down: all else goes on.
func TestNoRoomToStart(t *testing.T) {
	w := written(t, bootRoom+bootRoom-1)
	was, chassis := w.Ctl().Rows(), w.Ctl().Chassis()
	crashes(t, w, nobody)
	starts(t, w, nobody)
	decided(t, w, was...)
	if c := w.Ctl(); c.Boot() != 2 || len(c.Chassis()) != len(chassis) {
		t.Errorf("boot %d, %d", c.Boot(), c.Chassis())
	}
	crashes(t, w, nobody)
	for range 3 {
		stays(t, w, "Start", api.ErrFull, func() api.Errno { return w.Start(nobody) })
		if w.Ctl() != nil {
			t.Error("it is up")
		}
		stays(t, w, "API", api.ErrDown, func() api.Errno { _, e := w.API(adds(9)); return e })
		stays(t, w, "Crash", api.ErrDown, func() api.Errno { return w.Crash(nobody) })
	}
	ticks(t, w, 1)
	sends(t, w, 1, plainFrame(mac(3)))
	crashes(t, w, 2)
	starts(t, w, 2)
	if w.Now() != noon+1 || boot(t, w, 2) != 2 {
		t.Errorf("now %d, boot %d", w.Now(), boot(t, w, 2))
	}
}

// TestBreakWithoutRoom: P19.1: a call that has no room, done halfway, tells that; the controller is down, and the file has nothing of it.
func TestBreakWithoutRoom(t *testing.T) {
	w := written(t, rowRoom-1)
	was := w.Ctl().Rows()
	halts(t, w, asks(api.Abort, 4, 0), rowRoom, api.ErrFull)
	starts(t, w, nobody)
	decided(t, w, was...)
}
