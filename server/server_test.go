package server_test

import (
	"math"
	"slices"
	"strings"
	"testing"

	"bazaar/api"
	"bazaar/disk"
	"bazaar/meta"
	"bazaar/server"
	"bazaar/txn"
)

// P18.1: servers.

func TestNewOfABlankDisk(t *testing.T) {
	for _, pages := range []int{8, 9, 100} {
		d := blank(t, pages)
		s := started(t, d)
		if m := last(t, d); m != (api.Meta{Tx: 1, High: 2}) || len(d.Unsynced()) > 0 {
			t.Errorf("%d pages: %v, unsynced %v", pages, m, d.Unsynced())
		}
		wantWorld(t, s, nil)
		wantWatching(t, s, 0)
		wantTold(t, s, 1, total(0, 0), ok())
	}
}

func TestNewOfADiskWithoutAMeta(t *testing.T) {
	d := blank(t, 20)
	for i := range d.Sectors() {
		trash(t, d, i)
	}
	s := started(t, d)
	if m := last(t, d); m != (api.Meta{Tx: 1, High: 2}) || read(t, d, 0) != strings.Repeat("\x00", 64) {
		t.Error(m)
	}
	wantWorld(t, s, nil)
	wantTold(t, s, 1, open(1), ok())
	wantWorld(t, s, stepped(t, nil, open(1)))
}

func TestNewOfADiskWithAWorld(t *testing.T) {
	h := hallOf(t, open(1), mint(1, 5), open(2), pay(1, 2, 2))
	was, ops := image(t, h.disk), h.disk.Ops()
	s := started(t, h.disk)
	if !slices.Equal(image(t, h.disk), was) || h.disk.Ops() != ops {
		t.Error("New worked on the disk")
	}
	wantWorld(t, s, h.l)
	wantTold(t, s, 1, account(1), ok(3))
	wantTold(t, s, 1, account(2), ok(2))
	wantTold(t, s, 1, watch(), ok(5))
}

// A meta of two is enough.
func TestNewOfADiskWithOneMetaOfTwo(t *testing.T) {
	h := hallOf(t, open(1), mint(1, 5), mint(1, 7))
	before := stepped(t, nil, open(1), mint(1, 5))
	for sector, wanted := range map[int][]api.Pair{0: before, 4: h.l} {
		d := copied(t, h.disk)
		trash(t, d, sector)
		s := started(t, d)
		wantWorld(t, s, wanted)
		if read(t, d, sector) != strings.Repeat("junk", 16) {
			t.Errorf("New wrote into sector %d", sector)
		}
	}
}

func TestNewIsRefused(t *testing.T) {
	wantNone := func(what string, d *disk.Disk, wanted api.Errno) {
		t.Helper()
		var was []string
		if d != nil {
			was = image(t, d)
		}
		ops := d.Ops()
		s, e := server.New(d)
		want(t, what, e, wanted)
		if s != nil {
			t.Errorf("%s: a server beside the error", what)
		}
		if d != nil && (!slices.Equal(image(t, d), was) || d.Ops() != ops) {
			t.Errorf("%s: the disk was worked on", what)
		}
	}
	wantNone("no disk", nil, api.ErrNil)
	for n := 1; n < 32; n++ {
		wanted := api.ErrArg
		if n < 5 {
			wanted = api.ErrSector
		}
		wantNone("a small disk", sectors(t, n), wanted)
	}
	wantNone("High above the disk", planted(t, 8, api.Meta{Tx: 2, High: 9}), api.ErrTree)
	wantNone("no chunk", planted(t, 8, api.Meta{Tx: 2, High: 4, Free: 3}), api.ErrTree)
	h := hallOf(t, open(1), mint(1, 1))
	trash(t, h.disk, int(last(t, h.disk).Free)*4+1)
	wantNone("a torn chunk", h.disk, api.ErrTree)
	small, _ := disk.New(31)
	must(t, meta.Store(small, api.Meta{Tx: 1, High: 2}))
	if _, e := server.New(small); e != api.OK {
		t.Errorf("a small disk with a meta: error %d", e)
	}
	if _, e := server.New(sectors(t, 32)); e != api.OK {
		t.Errorf("32 sectors: error %d", e)
	}
}

// P18.1: requests.

func TestTheExample(t *testing.T) {
	h := entered(t, 100)
	h.wantRows(
		row{1, open(1), ok()},
		row{1, watch(), ok(2)},
		row{1, mint(1, 5), ok()},
		row{1, account(1), ok()},
		row{1, leave(), ok()},
		row{1, account(1), ok(5)},
	)
}

func TestRepliesAreBytes(t *testing.T) {
	s := started(t, blank(t, 100))
	for i, x := range []struct{ request, reply string }{
		{bytesOf(open(1)), strings.Repeat("\x00", 18)},
		{bytesOf(watch()), strings.Repeat("\x00", 9) + "\x02" + strings.Repeat("\x00", 8)},
		{bytesOf(open(1)), "\x00\xa0" + strings.Repeat("\x00", 16)},
		{bytesOf(burn(1, 1)), "\x00\x70" + strings.Repeat("\x00", 16)},
		{bytesOf(watch()), "\x00\xb4" + strings.Repeat("\x00", 16)},
		{"", "\x00\xaa" + strings.Repeat("\x00", 16)},
	} {
		if r := s.Handle(7, x.request); r != x.reply {
			t.Errorf("%d: %x, want %x", i, r, x.reply)
		}
	}
}

func TestEachCommand(t *testing.T) {
	h := entered(t, 200)
	h.wantRows(
		row{1, open(1), ok()},
		row{2, open(2), ok()},
		row{3, open(0), no(api.ErrPlace)},
		row{4, open(1), no(api.ErrExists)},
		row{100, mint(1, 50), ok()},
		row{1, mint(3, 50), no(api.ErrUnknown)},
		row{1, mint(1, most), no(api.ErrOverflow)},
		row{1, burn(1, 3), ok()},
		row{1, burn(1, 48), no(api.ErrFunds)},
		row{1, produce(1, 3, 9), ok()},
		row{1, produce(1, 3, 0), no(api.ErrGoods)},
		row{1, api.Command{Op: api.OpBreak, A: 1, Item: 3, N: 2}, ok()},
		row{1, pay(1, 2, 7), ok()},
		row{1, pay(1, 1, 7), no(api.ErrArg)},
		row{1, api.Command{Op: api.OpDeposit, A: 1, N: 10}, ok()},
		row{1, api.Command{Op: api.OpWithdraw, A: 1, N: 4}, ok()},
		row{1, account(1), ok(34, 6)},
		row{1, api.Command{Op: api.OpGive, A: 1, B: 2, Item: 3, N: 2}, ok()},
		row{1, send(1, 2, 5), ok(1)},
		row{1, send(1, 2, 6), ok(2)},
		row{1, send(2, 1, 1), ok(3)},
		row{1, mails(2), ok(2, 1)},
		row{1, api.Command{Op: api.OpClaim, A: 2, B: 1}, ok()},
		row{1, api.Command{Op: api.OpClaim, A: 2, B: 1}, no(api.ErrUnknown)},
		row{1, api.Command{Op: api.OpReturn, A: 2, B: 2}, ok()},
		row{1, mails(1), ok(2, 2)},
		row{1, list(1, 3, 4, 8), ok(1)},
		row{1, list(1, 3, 1, 2), ok(2)},
		row{1, list(1, 3, 1, 2), no(api.ErrStock)},
		row{1, api.Command{Op: api.OpBuy, A: 2, B: 1}, ok()},
		row{1, api.Command{Op: api.OpBuy, A: 1, B: 2}, no(api.ErrArg)},
		row{1, api.Command{Op: api.OpCancel, A: 1, B: 2}, ok()},
		row{1, account(1), ok(31, 6)},
		row{1, account(2), ok(3)},
		row{1, api.Command{Op: api.OpCount, A: 2, Item: 3}, ok(6)},
		row{1, api.Command{Op: api.OpCount, A: 1, Item: 3}, ok(1)},
		row{1, total(0, 0), ok(47)},
		row{1, total(1, 3), ok(7)},
		row{1, total(2, 3), no(api.ErrArg)},
		row{1, total(0, 3), no(api.ErrArg)},
		row{1, account(3), no(api.ErrUnknown)},
	)
}

func TestBadRequests(t *testing.T) {
	h := hallOf(t, open(1), mint(1, 5))
	h.do(2, watch())
	ops, was := h.disk.Ops(), image(t, h.disk)
	bad := replyOf(no(api.ErrBad))
	whole := bytesOf(mint(1, 5))
	for n := range 60 {
		request := (whole + whole + whole)[:n]
		if n != 27 && h.s.Handle(1, request) != bad {
			t.Errorf("%d bytes", n)
		}
	}
	for op := range 256 {
		if op >= 1 && op <= 21 {
			continue
		}
		if r := h.s.Handle(1, string([]byte{byte(op)})+whole[1:]); r != bad {
			t.Errorf("Op %d: %x", op, r)
		}
	}
	for _, session := range []int{math.MinInt, -1 << 32, -1, 0, 101, 102, 257, 1<<32 + 1, math.MaxInt} {
		for _, c := range append(queries(), mint(1, 5), watch(), leave()) {
			wantTold(t, h.s, session, c, no(api.ErrBad))
		}
		if h.s.Handle(session, "") != bad {
			t.Errorf("session %d", session)
		}
	}
	if h.disk.Ops() != ops || !slices.Equal(image(t, h.disk), was) {
		t.Error("bad requests worked on the disk")
	}
	h.check()
}

func TestSessionsAreFromOneToAHundred(t *testing.T) {
	h := hallOf(t, open(1))
	for session := 1; session <= 100; session++ {
		h.wantRows(row{session, mint(1, 1), ok()}, row{session, watch(), ok(int64(session) + 2)}, row{session, leave(), ok()})
	}
	wantTold(t, h.s, 1, account(1), ok(100))
}

// Only an Op is looked at of OpWatch and OpLeave.
func TestWatchAndLeaveHaveNoFields(t *testing.T) {
	h := hallOf(t, open(1))
	c := api.Command{A: math.MaxUint32, B: 7, Item: 9, N: -1, M: math.MinInt64}
	for range 3 {
		c.Op = api.OpWatch
		h.wantRows(row{1, c, ok(2)}, row{1, c, no(api.ErrWatch)})
		c.Op = api.OpLeave
		h.wantRows(row{1, c, ok()}, row{1, c, no(api.ErrWatch)})
	}
}

func TestWatchersSeeTheirWorld(t *testing.T) {
	h := entered(t, 200)
	h.wantRows(
		row{1, watch(), ok(1)},
		row{9, open(1), ok()},
		row{2, watch(), ok(2)},
		row{9, mint(1, 5), ok()},
		row{3, watch(), ok(3)},
		row{3, mint(1, 2), ok()},
		row{1, account(1), no(api.ErrUnknown)},
		row{2, account(1), ok()},
		row{3, account(1), ok(5)},
		row{9, account(1), ok(7)},
		row{1, total(0, 0), ok()},
		row{3, total(0, 0), ok(5)},
		row{9, total(0, 0), ok(7)},
		row{3, total(3, 0), no(api.ErrArg)},
		// What they ask for is done to the world that there is, not to the one that they see.
		row{1, burn(1, 6), ok()},
		row{2, burn(1, 6), no(api.ErrFunds)},
		row{3, account(1), ok(5)},
		row{3, leave(), ok()},
		row{3, account(1), ok(1)},
		row{2, account(1), ok()},
		row{3, watch(), ok(5)},
		row{1, open(2), ok()},
		row{1, account(2), no(api.ErrUnknown)},
		row{3, account(2), no(api.ErrUnknown)},
		row{4, account(2), ok()},
		row{2, leave(), ok()},
		row{1, leave(), ok()},
		row{1, account(2), ok()},
	)
	wantWatching(t, h.s, 1)
}

func TestAQueryIsRolledBack(t *testing.T) {
	h := hallOf(t, open(1), mint(1, 5))
	for range 50 {
		for _, c := range append(queries(), account(9), total(7, 7), burn(1, 6), open(1)) {
			h.do(1, c)
		}
	}
	h.wantRows(row{1, watch(), ok(3)}, row{1, leave(), ok()}, row{1, mint(1, 1), ok()}, row{1, watch(), ok(4)})
}

func TestSixtyFourWatch(t *testing.T) {
	h := hallOf(t, open(1))
	for session := 1; session <= 64; session++ {
		h.wantRows(row{session, watch(), ok(2)})
	}
	h.wantRows(
		row{65, watch(), no(api.ErrMany)},
		row{100, watch(), no(api.ErrMany)},
		row{1, watch(), no(api.ErrWatch)},
		row{65, leave(), no(api.ErrWatch)},
		row{65, account(1), ok()},
		row{65, mint(1, 3), ok()},
		row{64, account(1), ok()},
		row{17, leave(), ok()},
		row{65, watch(), ok(3)},
		row{17, watch(), no(api.ErrMany)},
		row{17, account(1), ok(3)},
		row{65, account(1), ok(3)},
		row{1, account(1), ok()},
	)
	for _, session := range h.watchers() {
		h.wantRows(row{session, leave(), ok()})
	}
	wantWatching(t, h.s, 0)
}

// Watchers hold pages back, which are free once they leave.
func TestWatchersLeavePagesFree(t *testing.T) {
	h := hallOf(t, open(1))
	grow := func() uint32 {
		high := last(t, h.disk).High
		for range 20 {
			h.do(1, mint(1, 1))
		}
		return last(t, h.disk).High - high
	}
	grow()
	if n := grow(); n > 0 {
		t.Errorf("%d more pages without watchers", n)
	}
	h.do(2, watch())
	if n := grow(); n < 40 {
		t.Errorf("%d more pages with a watcher", n)
	}
	h.do(2, leave())
	grow()
	if n := grow(); n > 0 {
		t.Errorf("%d more pages behind it", n)
	}
	h.do(2, watch())
	h.restart()
	if n := grow(); n > 0 {
		t.Errorf("%d more pages behind a restart", n)
	}
	wantWhole(t, h.disk)
}

func TestPagesMayBeWanting(t *testing.T) {
	for pages := 8; pages < 18; pages++ {
		h := entered(t, pages)
		h.full = 0
		for a := uint32(1); a <= 60; a++ {
			h.do(1, open(a))
			h.do(2, account(a))
		}
		if h.full == 0 {
			t.Errorf("%d pages hold all", pages)
		}
		// It goes on: what needs no more pages than there are is done.
		done := len(h.l)
		h.wantRows(row{1, account(1), ok()}, row{3, watch(), ok(h.tx)}, row{3, leave(), ok()})
		h.restart()
		h.check()
		if len(h.l) != done {
			t.Errorf("%d pages: %d pairs, not %d", pages, len(h.l), done)
		}
		wantWhole(t, h.disk)
	}
}

// A full disk is told of ahead of a limit, which is met by what is written alone.
func TestAFullDiskIsNotDown(t *testing.T) {
	h := entered(t, 8)
	h.full = 0
	for a := uint32(1); h.full == 0; a++ {
		h.do(1, open(a))
	}
	must(t, h.s.Limit(0))
	h.wantRows(row{1, open(1000), no(api.ErrFull)}, row{1, account(1), ok()})
}

// Numbers of commits that are at their end.
func TestTheLastTransactions(t *testing.T) {
	for _, x := range []struct {
		tx   uint64
		want int64
	}{{1<<63 - 1, math.MaxInt64}, {1 << 63, math.MinInt64}, {math.MaxUint64 - 1, -2}} {
		s := started(t, planted(t, 8, api.Meta{Tx: x.tx, High: 2}))
		wantTold(t, s, 1, watch(), ok(x.want))
		wantTold(t, s, 1, open(1), ok())
		wantTold(t, s, 2, watch(), ok(x.want+1))
		wantTold(t, s, 1, account(1), no(api.ErrUnknown))
		wantTold(t, s, 2, account(1), ok())
	}
	s := started(t, planted(t, 8, api.Meta{Tx: math.MaxUint64, High: 2}))
	wantTold(t, s, 1, open(1), no(api.ErrArg))
	wantTold(t, s, 1, total(0, 0), no(api.ErrArg))
	wantTold(t, s, 1, watch(), ok(-1))
	wantTold(t, s, 1, total(0, 0), ok())
	wantTold(t, s, 1, total(1, 7), ok())
	wantTold(t, s, 1, account(1), no(api.ErrUnknown))
	wantTold(t, s, 1, leave(), ok())
	wantWorld(t, s, nil)
}

// What is torn on the disk is told, and nothing is changed.
func TestATornTree(t *testing.T) {
	h := hallOf(t, open(1), mint(1, 5))
	h.do(2, watch())
	was := trash(t, h.disk, int(last(t, h.disk).Root)*4+1)
	ops := h.disk.Ops()
	for _, c := range []api.Command{account(1), mint(1, 1), open(3)} {
		wantTold(t, h.s, 1, c, no(api.ErrTree))
	}
	wantTold(t, h.s, 2, account(1), no(api.ErrTree))
	if l, e := h.s.World(); len(l) > 0 || e != api.ErrTree {
		t.Errorf("World: %x, %d", l, e)
	}
	if h.disk.Ops() != ops {
		t.Error("the disk was worked on")
	}
	mend(t, h.disk, was)
	h.check()
	h.wantRows(row{1, account(1), ok(5)}, row{2, account(1), ok(5)}, row{1, mint(1, 1), ok()})
}

// P18.1: streams.

// wantServed wants a server to answer a session's stream this.
func wantServed(t *testing.T, s *server.Server, session int, stream, replies, rest string, e api.Errno) {
	t.Helper()
	if r, left, f := s.Serve(session, stream); r != replies || left != rest || f != e {
		t.Errorf("Serve(%d, %x): %x, %x, %d, want %x, %x, %d", session, stream, r, left, f, replies, rest, e)
	}
}

func TestServe(t *testing.T) {
	s := started(t, blank(t, 100))
	wantServed(t, s, 1, "", "", "", api.OK)
	wantServed(t, s, 1, requests(open(1)), replies(ok()), "", api.OK)
	wantServed(t, s, 1, requests(watch(), mint(1, 5), account(1), leave(), account(1)), replies(ok(2), ok(), ok(), ok(), ok(5)), "", api.OK)
	wantServed(t, s, 100, requests(burn(1, 6), burn(1, 5), burn(1, 5)), replies(no(api.ErrFunds), ok(), no(api.ErrFunds)), "", api.OK)
	wantServed(t, s, 2, frames("x", bytesOf(mint(1, 9)), bytesOf(mint(1, 9))[1:], strings.Repeat("y", 100), bytesOf(account(1))),
		replies(no(api.ErrBad), ok(), no(api.ErrBad), no(api.ErrBad), ok(9)), "", api.OK)
	for _, session := range []int{math.MinInt, -1, 0, 101, math.MaxInt} {
		wantServed(t, s, session, requests(mint(1, 5), account(1))+"\x00", replies(no(api.ErrBad), no(api.ErrBad)), "\x00", api.OK)
	}
	wantTold(t, s, 1, account(1), ok(9))
}

// Sessions that are served watch, each for itself.
func TestServedSessionsWatch(t *testing.T) {
	s := started(t, blank(t, 100))
	wantServed(t, s, 1, requests(open(1), watch(), mint(1, 5)), replies(ok(), ok(2), ok()), "", api.OK)
	wantServed(t, s, 2, requests(watch(), mint(1, 5)), replies(ok(3), ok()), "", api.OK)
	wantServed(t, s, 1, requests(account(1)), replies(ok()), "", api.OK)
	wantServed(t, s, 2, requests(account(1), watch()), replies(ok(5), no(api.ErrWatch)), "", api.OK)
	wantServed(t, s, 3, requests(account(1), leave()), replies(ok(10), no(api.ErrWatch)), "", api.OK)
	wantWatching(t, s, 2)
}

// scriptOf is some commands, and what they answer one session on a new disk.
func scriptOf(t *testing.T) ([]api.Command, []api.Answer) {
	t.Helper()
	h := entered(t, 100)
	commands := []api.Command{open(1), mint(1, 5), watch(), burn(1, 2), account(1), burn(1, 4), leave(), account(1), open(2), send(1, 2, 2), mails(2)}
	var answers []api.Answer
	for _, c := range commands {
		answers = append(answers, h.do(1, c))
	}
	return commands, answers
}

func TestServeWhereverAStreamIsCut(t *testing.T) {
	commands, answers := scriptOf(t)
	stream, all := requests(commands...), replies(answers...)
	for at := range len(stream) + 1 {
		s := started(t, blank(t, 100))
		done := at / 29
		wantServed(t, s, 1, stream[:at], replies(answers[:done]...), stream[29*done:at], api.OK)
		wantServed(t, s, 1, stream[29*done:], all[20*done:], "", api.OK)
	}
}

func TestServeAtAWrongLength(t *testing.T) {
	commands, answers := scriptOf(t)
	for _, length := range []string{"\x00\x00", "\x00\x65", "\x00\xff", "\x01\x00", "\x01\x1b", "\xff\xff"} {
		for n := range len(commands) + 1 {
			s := started(t, blank(t, 100))
			rest := length + requests(commands[n:]...)
			wantServed(t, s, 1, requests(commands[:n]...)+rest, replies(answers[:n]...), rest, api.ErrBad)
			wantServed(t, s, 1, rest, "", rest, api.ErrBad)
			// What stands behind it is not handled.
			wantServed(t, s, 1, rest[2:], replies(answers[n:]...), "", api.OK)
		}
	}
}

func TestServeWhileItGoesDown(t *testing.T) {
	s := started(t, blank(t, 100))
	wantServed(t, s, 1, requests(open(1)), replies(ok()), "", api.OK)
	must(t, s.Limit(0))
	down := no(api.ErrDown)
	wantServed(t, s, 1, requests(account(1), watch(), mint(1, 5), account(1))+frames("x")+"\x00\x00", replies(ok(), ok(2), down, down, down), "\x00\x00", api.ErrBad)
	wantServed(t, s, 0, requests(leave())+"\x00", replies(down), "\x00", api.OK)
	must(t, s.Restart())
	wantServed(t, s, 1, requests(leave(), account(1)), replies(no(api.ErrWatch), ok()), "", api.OK)
}

// R4: of a nil server.
func TestOfNoServer(t *testing.T) {
	var s *server.Server
	wanted := "\x00\x01" + strings.Repeat("\x00", 16)
	for _, session := range []int{-1, 0, 1, 100, 101} {
		for _, request := range []string{"", "x", bytesOf(open(1)), bytesOf(watch()), bytesOf(leave()), bytesOf(account(1))} {
			if r := s.Handle(session, request); r != wanted {
				t.Errorf("Handle(%d, %x): %x", session, request, r)
			}
			for _, stream := range []string{frames(request), frames(request) + "rest", request, "\x00\x00"} {
				wantServed(t, s, session, stream, "", "", api.ErrNil)
			}
		}
	}
	for _, n := range []int{math.MinInt, -1, 0, 1, math.MaxInt} {
		want(t, "Limit", s.Limit(n), api.ErrNil)
	}
	want(t, "Restart", s.Restart(), api.ErrNil)
	if l, e := s.World(); len(l) > 0 || e != api.ErrNil {
		t.Errorf("World: %x, %d", l, e)
	}
	wantWatching(t, s, 0)
}

// P18.2: limits.

// costs is how many writes and syncs each of some commands has, one behind the other.
func costs(h *hall, commands ...api.Command) []int {
	h.Helper()
	twin := h.twin()
	var l []int
	for _, c := range commands {
		ops := twin.disk.Ops()
		twin.do(1, c)
		l = append(l, twin.disk.Ops()-ops)
	}
	return l
}

func TestLimit(t *testing.T) {
	start := hallOf(t, open(1), mint(1, 6))
	for _, n := range []int{math.MinInt, -1 << 32, -2, -1} {
		want(t, "Limit", start.s.Limit(n), api.ErrArg)
	}
	commands := []api.Command{mint(1, 2), open(2)}
	l := costs(start, commands...)
	for n := range l[0] + l[1] + 1 {
		h := start.twin()
		must(t, h.s.Limit(n))
		// What keeps nothing has no part in it.
		h.wantRows(row{3, watch(), ok(3)}, row{3, account(1), ok(6)}, row{2, account(1), ok(6)}, row{2, burn(1, 9), no(api.ErrFunds)}, row{3, leave(), ok()}, row{4, watch(), ok(3)})
		h.limited(n, l, commands...)
	}
}

// limited does commands, each of which has so many writes and syncs, up to the one at which a limit lets the server go down, if any.
func (h *hall) limited(n int, costs []int, commands ...api.Command) {
	h.Helper()
	for i, c := range commands {
		if n >= costs[i] {
			h.do(1, c)
			h.wantRows(row{4, account(1), ok(6)})
			n -= costs[i]
			continue
		}
		ops := h.disk.Ops()
		wantTold(h.T, h.s, 1, c, no(api.ErrDown))
		if did := h.disk.Ops() - ops; did != n {
			h.Errorf("%d writes and syncs of %d", did, n)
		}
		wantDown(h.T, h.s, h.l, 1)
		return
	}
}

func TestALimitIsSetAnew(t *testing.T) {
	h := hallOf(t, open(1))
	must(t, h.s.Limit(0))
	must(t, h.s.Limit(math.MaxInt))
	h.wantRows(row{1, mint(1, 1), ok()})
	must(t, h.s.Limit(0))
	want(t, "Limit", h.s.Limit(-1), api.ErrArg)
	wantTold(t, h.s, 1, mint(1, 1), no(api.ErrDown))
	wantDown(t, h.s, h.l, 0)
}

func TestALimitEndsWithARestart(t *testing.T) {
	h := hallOf(t, open(1))
	must(t, h.s.Limit(0))
	h.restart()
	h.wantRows(row{1, mint(1, 1), ok()})
	must(t, h.s.Limit(1))
	wantTold(t, h.s, 1, mint(1, 1), no(api.ErrDown))
	must(t, h.disk.Crash(nil))
	h.restart()
	h.wantRows(row{1, mint(1, 1), ok()}, row{1, account(1), ok(2)})
}

// P18.2: restarts.

func TestRestart(t *testing.T) {
	h := hallOf(t, open(1), mint(1, 5))
	h.do(1, watch())
	h.do(2, watch())
	h.do(1, mint(1, 2))
	ops := h.disk.Ops()
	h.restart()
	if h.disk.Ops() != ops {
		t.Error("Restart worked on the disk")
	}
	h.wantRows(
		row{1, account(1), ok(7)},
		row{1, leave(), no(api.ErrWatch)},
		row{2, watch(), ok(4)},
		row{2, leave(), ok()},
	)
	h.restart()
	h.restart()
	h.wantRows(row{1, mint(1, 1), ok()}, row{1, account(1), ok(8)})
}

// All 64 readers are there again.
func TestRestartClosesReaders(t *testing.T) {
	h := hallOf(t, open(1))
	for range 3 {
		for session := 1; session <= 64; session++ {
			h.do(session, watch())
		}
		h.wantRows(row{65, watch(), no(api.ErrMany)})
		h.restart()
	}
	h.wantRows(row{65, watch(), ok(2)}, row{1, watch(), ok(2)})
}

// The server looks at its disk anew, whoever wrote there.
func TestRestartOpensTheDisk(t *testing.T) {
	h := hallOf(t, open(1), mint(1, 5))
	b, e := txn.Open(h.disk)
	must(t, e)
	must(t, b.Begin())
	p := stepped(t, h.l, open(2))
	must(t, b.Put(p[1]))
	must(t, b.Commit())
	// It has not seen yet what another one wrote.
	wantWorld(t, h.s, h.l)
	wantTold(t, h.s, 1, account(2), no(api.ErrUnknown))
	h.l, h.tx = p, h.tx+1
	h.restart()
	h.wantRows(row{1, account(2), ok()})
}

func TestRestartIsRefused(t *testing.T) {
	h := hallOf(t, open(1), mint(1, 5), mint(1, 2))
	m := last(t, h.disk)
	chunk := int(m.Free) * 4
	for i, x := range []struct {
		torn []int
		want api.Errno
	}{
		{[]int{0, 4}, api.ErrMeta},
		{[]int{chunk}, api.ErrTree},
		{[]int{chunk + 3}, api.ErrTree},
	} {
		h := h.twin()
		h.do(1, watch())
		h.do(3, watch())
		h.do(1, leave())
		was := trash(t, h.disk, x.torn...)
		torn, ops := image(t, h.disk), h.disk.Ops()
		for range 2 {
			want(t, "Restart", h.s.Restart(), x.want)
			wantDown(t, h.s, h.l, 1)
		}
		if !slices.Equal(image(t, h.disk), torn) || h.disk.Ops() != ops {
			t.Errorf("%d: the disk was worked on", i)
		}
		mend(t, h.disk, was)
		wantDown(t, h.s, h.l, 1)
		h.restart()
		h.wantRows(row{3, watch(), ok(4)}, row{1, mint(1, 1), ok()}, row{1, account(1), ok(8)})
		must(t, h.s.Limit(0))
		wantTold(t, h.s, 1, mint(1, 1), no(api.ErrDown))
	}
}

// A restart that is refused leaves a server down that was so, and one that is not lets it go on.
func TestRestartIsRefusedOfOneThatIsDown(t *testing.T) {
	h := hallOf(t, open(1), mint(1, 5))
	h.do(4, watch())
	must(t, h.s.Limit(2))
	wantTold(t, h.s, 1, mint(1, 1), no(api.ErrDown))
	wantDown(t, h.s, h.l, 1)
	must(t, h.disk.Crash([]int{64, 64}))
	was := trash(t, h.disk, 0, 4)
	want(t, "Restart", h.s.Restart(), api.ErrMeta)
	wantDown(t, h.s, h.l, 1)
	mend(t, h.disk, was)
	h.restart()
	h.wantRows(row{1, account(1), ok(5)}, row{1, mint(1, 1), ok()})
}

// P18.2: worlds.

func TestWorldIsAThousandPairsAtMost(t *testing.T) {
	h := entered(t, 1000)
	for a := uint32(1); a <= 1003; a++ {
		if told(t, h.s, 1, open(a)) != ok() {
			t.Fatal(a)
		}
		h.l = stepped(t, h.l, open(a))
		if a >= 998 {
			wantWorld(t, h.s, h.l[:min(int(a), 1000)])
		}
	}
	wantTold(t, h.s, 1, account(1003), ok())
	// Keys of coins stand behind all accounts.
	wantTold(t, h.s, 1, mint(1003, 1), ok())
	wantWorld(t, h.s, h.l[:1000])
	must(t, h.s.Limit(0))
	wantTold(t, h.s, 1, mint(1003, 1), no(api.ErrDown))
	wantDown(t, h.s, h.l[:1000], 0)
}

// R3: what World answers is new memory.
func TestWorldIsNewMemory(t *testing.T) {
	h := hallOf(t, open(1), mint(1, 5), open(2), produce(2, 9, 4))
	for range 3 {
		l, e := h.s.World()
		must(t, e)
		more, _ := h.s.World()
		for i := range cap(l) {
			l[:cap(l)][i] = api.Pair{K: "junk", V: "junk"}
		}
		if !slices.Equal(more, h.l) {
			t.Errorf("two answers share memory: %x", more)
		}
		h.check()
	}
}

// What a crash of the disk alone takes was never told by a server that is up.
func TestACrashWithoutALimit(t *testing.T) {
	h := hallOf(t, open(1), mint(1, 5))
	must(t, h.disk.Crash(nil))
	h.check()
	h.wantRows(row{1, mint(1, 2), ok()})
	must(t, h.disk.Crash(nil))
	h.restart()
	h.wantRows(row{1, account(1), ok(7)})
}
