package ctl_test

import (
	"hash/crc32"
	"slices"

	"rutter/api"
	"rutter/control"
	"rutter/phase"
	"rutter/session"
)

// paper is what a file is, told anew.
type paper struct {
	all        string
	safe, room int
}

func (p *paper) put(body string) api.Errno {
	if len(p.all)+6+len(body) > p.room {
		return api.ErrFull
	}
	p.all += whole(body)
	return api.OK
}

func (p *paper) crash(keep int) {
	p.all = p.all[:p.safe+min(max(keep, 0), len(p.all)-p.safe)]
	p.safe = len(p.all)
}

// bodies are those of the records that are whole; what stands behind them goes.
func (p *paper) bodies() []string {
	var l []string
	n := 0
	for {
		rest := p.all[n:]
		if len(rest) < 2 {
			break
		}
		long := int(rest[0])<<8 + int(rest[1])
		if long < 1 || long > 200 || len(rest) < long+6 || figures(4, int(crc32.ChecksumIEEE([]byte(rest[2:2+long])))) != rest[2+long:6+long] {
			break
		}
		l = append(l, rest[2:2+long])
		n += long + 6
	}
	if n < len(p.all) {
		p.all, p.safe = p.all[:n], n
	}
	return l
}

// wire is what a line is, told anew.
type wire struct {
	peer, next, got int
	queue           []string
	behind          bool
}

func (w *wire) push(body string) bool {
	if len(w.queue) == 64 {
		return false
	}
	w.queue = append(w.queue, body)
	return true
}

// plain is what a controller is, told anew in the simplest way, as the chapter has it; what acts make of rows it asks of the chapter's own package. A row of version 0 is none.
type plain struct {
	p               *paper
	span, now, boot int
	there           [16]bool
	rows            [32]api.Row
	lines           [16]wire
	stopped         bool
}

// is tells whether n is from least to most.
func is(n, least, most int) bool { return least <= n && n <= most }

// number is that of bytes.
func number(s string) int {
	n := 0
	for i := range len(s) {
		n = n<<8 + int(s[i])
	}
	return n
}

// plainOpen is one on a file.
func plainOpen(p *paper, span, now int) (*plain, api.Errno) {
	if p == nil || !is(span, 1, 2147483648) || !is(now, 0, 1099511627776) {
		return nil, api.ErrArg
	}
	c := &plain{p: p, span: span, now: now}
	for _, b := range p.bodies() {
		if !c.says(b) {
			return nil, api.ErrForm
		}
	}
	if c.boot >= 4294967296 {
		return nil, api.ErrGen
	}
	if e := p.put(ofBoot(c.boot + 1)); e != api.OK {
		return nil, e
	}
	c.boot++
	p.safe = len(p.all)
	for i := range c.lines {
		c.lines[i].next = 1
	}
	c.late()
	return c, api.OK
}

// says does what a record says, if it is one that can be done.
func (c *plain) says(b string) bool {
	switch {
	case b[0] == 4 && len(b) == 2:
		return c.adds(int(b[1])) == api.OK
	case b[0] == 5 && len(b) == 2:
		return c.removes(int(b[1])) == api.OK
	case b[0] == 6 && len(b) == 6:
		was := c.boot
		c.boot = number(b[1:])
		return c.boot > was
	case b[0] == 1:
		m, e := control.Decode([]byte(b))
		return e == api.OK && m.Row.Ver > c.rows[m.Row.Port].Ver && c.becomes(m.Row) == api.OK
	}
	return false
}

func (c *plain) adds(n int) api.Errno {
	if !is(n, 0, 15) {
		return api.ErrArg
	}
	if c.there[n] {
		return api.ErrTwice
	}
	c.there[n] = true
	return api.OK
}

func (c *plain) removes(n int) api.Errno {
	if !is(n, 0, 15) || !c.there[n] {
		return api.ErrNone
	}
	for _, r := range c.rows {
		if r.Ver > 0 && (r.Owner == n || r.Target == n || r.Old == n) {
			return api.ErrUsed
		}
	}
	c.there[n] = false
	return api.OK
}

// becomes is a row that an act made, if it may be beside the others.
func (c *plain) becomes(r api.Row) api.Errno {
	for _, n := range []int{r.Owner, r.Target, r.Old} {
		if n != -1 && !c.there[n] {
			return api.ErrNone
		}
	}
	for _, x := range c.rows {
		if x.Ver > 0 && x.Port != r.Port && x.MAC == r.MAC && x.Phase != 3 && r.Phase != 3 {
			return api.ErrTwice
		}
	}
	c.rows[r.Port] = r
	return api.OK
}

// acted is what an op makes of a port's row.
func (c *plain) acted(x api.Call) (api.Row, api.Errno) {
	var r api.Row
	if is(x.Port, 0, 31) {
		r = c.rows[x.Port]
	}
	here := r.Ver > 0 && r.Phase != 3
	switch {
	case x.Op == 2 && here:
		return api.Row{}, api.ErrTwice
	case x.Op == 2 && r.Ver > 0:
		return phase.Again(r, x.MAC, x.Chassis, c.now)
	case x.Op == 2:
		return phase.New(x.Port, x.MAC, x.Chassis, c.now)
	case !here:
		return api.Row{}, api.ErrNone
	case x.Op == 3:
		return phase.Drop(r, c.now)
	case x.Op == 4:
		return phase.Start(r, x.Chassis, c.now)
	case x.Op == 5:
		return phase.Commit(r, c.now)
	case x.Op == 6:
		return phase.Abort(r, c.now)
	}
	return r, api.OK
}

// calls does a call, and notes it: what it answers, and the body of its record, if it has one.
func (c *plain) calls(x api.Call) (api.Row, string, api.Errno) {
	var r api.Row
	var note string
	var e api.Errno
	switch {
	case !is(int(x.Op), 0, 7):
		e = api.ErrArg
	case x.Op == 0:
		e, note = c.adds(x.Chassis), ofAdded(x.Chassis)
	case x.Op == 1:
		e, note = c.removes(x.Chassis), ofRemoved(x.Chassis)
	default:
		r, e = c.acted(x)
		if e == api.OK && x.Op != 7 {
			e, note = c.becomes(r), ofRow(r)
		}
	}
	if e == api.OK && note != "" {
		e = c.p.put(note)
	}
	if e != api.OK {
		return api.Row{}, "", e
	}
	return r, note, api.OK
}

// goesBack has what was there, with lines as they are.
func (c *plain) goesBack(was plain) { c.there, c.rows = was.there, was.rows }

func (c *plain) do(x api.Call) (api.Row, api.Errno) {
	if c.stopped {
		return api.Row{}, api.ErrHalt
	}
	was := *c
	r, note, e := c.calls(x)
	switch {
	case e != api.OK:
		c.goesBack(was)
	case note != "":
		c.p.safe = len(c.p.all)
		if x.Op == 0 {
			c.lines[x.Chassis].behind = true
		}
		if note[0] == 1 {
			c.tells(note)
		}
	}
	return r, e
}

func (c *plain) half(x api.Call) api.Errno {
	if c.stopped {
		return api.ErrHalt
	}
	was := *c
	_, note, e := c.calls(x)
	c.goesBack(was)
	c.stopped = note != ""
	return e
}

func (c *plain) tells(note string) {
	for n, there := range c.there {
		if w := &c.lines[n]; there && w.peer > 0 && !w.push(note) {
			w.behind = true
		}
	}
}

// changes makes a row another one, that may be.
func (c *plain) changes(r api.Row) {
	if c.p.put(ofRow(r)) != api.OK {
		return
	}
	c.p.safe = len(c.p.all)
	c.rows[r.Port] = r
	c.tells(ofRow(r))
}

// late lets rows become so that are late.
func (c *plain) late() {
	for _, r := range c.rows {
		if r.Ver == 0 || c.now < r.Since+c.span {
			continue
		}
		e := api.ErrState
		if r.Phase == 1 {
			r, e = phase.Abort(r, c.now)
		} else if r.Phase == 2 {
			r, e = phase.Commit(r, c.now)
		}
		if e == api.OK {
			c.changes(r)
		}
	}
}

func (c *plain) tick(now int) api.Errno {
	if c.stopped {
		return api.ErrHalt
	}
	if !is(now, c.now, 1099511627776) {
		return api.ErrArg
	}
	c.now = now
	c.late()
	return api.OK
}

// hands is what is handed out of a letter that a line takes, if something is.
func (c *plain) hands(w *wire, l session.Letter) (string, bool) {
	if l.Mine > w.peer {
		*w = wire{peer: l.Mine, next: 1, behind: true}
	}
	handed := false
	if l.Peer == c.boot {
		for len(w.queue) > 0 && w.next <= l.Ack {
			w.queue = w.queue[1:]
			w.next++
		}
		if handed = l.Seq == w.got+1; handed {
			w.got = l.Seq
		}
	}
	return string(l.Body), handed
}

func (c *plain) take(n int, b []byte) (api.Message, api.Errno) {
	none := api.Message{}
	switch {
	case c.stopped:
		return none, api.ErrHalt
	case !is(n, 0, 15):
		return none, api.ErrArg
	case !c.there[n]:
		return none, api.ErrNone
	}
	l, e := session.Decode(b)
	if e != api.OK {
		return none, e
	}
	w := &c.lines[n]
	if l.Mine < w.peer {
		return none, api.ErrStale
	}
	body, handed := c.hands(w, l)
	if w.behind && len(w.queue) == 0 {
		for _, r := range c.all() {
			w.push(ofRow(r))
		}
		w.behind = false
	}
	m, e := control.Decode([]byte(body))
	if !handed || e != api.OK {
		return none, api.OK
	}
	c.hears(n, m, body)
	return m, api.OK
}

func (c *plain) hears(n int, m api.Message, body string) {
	r := c.rows[m.Port]
	switch {
	case r.Ver == 0:
	case m.Kind == 2:
		if next, e := phase.Awake(r, n, m.Ver, c.now); e == api.OK {
			c.changes(next)
		}
	case m.Kind == 3 && r.Phase != 3 && r.Owner != n && c.lines[r.Owner].peer > 0:
		c.lines[r.Owner].push(body)
	}
}

func (c *plain) out(n int) []session.Letter {
	if c.stopped || !is(n, 0, 15) || !c.there[n] {
		return nil
	}
	w := &c.lines[n]
	l := []session.Letter{{Mine: c.boot, Peer: w.peer, Ack: w.got}}
	for i, body := range w.queue {
		if i == 8 {
			break
		}
		l = append(l[:i], session.Letter{Mine: c.boot, Peer: w.peer, Ack: w.got, Seq: w.next + i, Body: []byte(body)})
	}
	return l
}

func (c *plain) idle(n int) bool {
	if c.stopped || !is(n, 0, 15) || !c.there[n] {
		return false
	}
	w := &c.lines[n]
	return w.peer > 0 && len(w.queue) == 0 && !w.behind
}

// all are the rows, by ports.
func (c *plain) all() []api.Row {
	return slices.DeleteFunc(slices.Clone(c.rows[:]), func(r api.Row) bool { return r.Ver == 0 })
}

func (c *plain) chassis() []int {
	var l []int
	for n, there := range c.there {
		if there {
			l = append(l, n)
		}
	}
	return l
}
