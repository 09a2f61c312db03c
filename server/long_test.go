package server_test

import (
	"math"
	"slices"
	"testing"

	"bazaar/api"
	"bazaar/world"
)

// P18.3, and all of P18.1 and P18.2 together.

// commandOf is a command of small numbers, most of which can be done; some are wrong.
func commandOf(d *dice) api.Command {
	ids := []uint32{1, 2, 3, 258, 1000000}
	c := api.Command{Op: 1 + d.roll(21), A: ids[d.roll(5)], B: ids[d.roll(5)], Item: uint16(d.roll(6)), N: int64(d.roll(12)), M: int64(d.roll(5))}
	switch c.Op {
	case api.OpClaim, api.OpReturn, api.OpBuy, api.OpCancel:
		c.B = uint32(d.roll(30))
	case api.OpTotal:
		c.A = uint32(d.roll(2))
		c.Item *= uint16(c.A)
	}
	switch d.roll(20) {
	case 0:
		c.A = []uint32{0, 9, 1000001, math.MaxUint32}[d.roll(4)]
	case 1:
		c.N = []int64{-1, most, most + 1, math.MinInt64}[d.roll(4)]
	case 2:
		c.Op = []int{0, 22, 128, 255}[d.roll(4)]
	}
	return c
}

// sessionOf is a session, most often one of a few.
func sessionOf(d *dice) int {
	if d.roll(25) == 0 {
		return []int{-1, 0, 101, 100}[d.roll(4)]
	}
	return 1 + d.roll(5)
}

// chance is a session and its command. Who watches leaves soon, as each one that stays holds pages back.
func (h *hall) chance(d *dice) (int, api.Command) {
	if l := h.watchers(); len(l) > 0 && d.roll(6) == 0 {
		return l[d.roll(len(l))], leave()
	}
	return sessionOf(d), commandOf(d)
}

func TestALongRun(t *testing.T) {
	h := entered(t, 1000)
	deal := dice(1)
	done := map[int]int{}
	for i := range 6000 {
		session, c := h.chance(&deal)
		if h.do(session, c).E == api.OK {
			done[c.Op]++
		}
		if deal.roll(400) == 0 {
			h.restart()
		}
		if i%200 == 0 {
			wantWhole(t, h.disk)
		}
	}
	for op := 1; op <= 21; op++ {
		if done[op] < 5 {
			t.Errorf("Op %d was done %d times", op, done[op])
		}
	}
}

// Where pages are wanting a command may be refused, and is done or not done as a whole.
func TestALongRunOnFewPages(t *testing.T) {
	for pages := 8; pages < 40; pages += 3 {
		h := entered(t, pages)
		h.full = 0
		deal := dice(pages)
		for range 400 {
			h.do(sessionOf(&deal), commandOf(&deal))
		}
		for _, session := range h.watchers() {
			h.do(session, leave())
		}
		wantWhole(t, h.disk)
	}
}

// A row of calls comes to the same each time, whatever other servers do.
func TestRunsComeToTheSame(t *testing.T) {
	one, other := blank(t, 100), blank(t, 100)
	a, b, noise := started(t, one), started(t, other), started(t, blank(t, 100))
	deal, chaos := dice(5), dice(6)
	for range 500 {
		session, request := sessionOf(&deal), bytesOf(commandOf(&deal))
		r := a.Handle(session, request)
		noise.Handle(sessionOf(&chaos), bytesOf(commandOf(&chaos)))
		if got := b.Handle(session, request); got != r {
			t.Fatalf("session %d, %x: %x, and %x", session, request, r, got)
		}
	}
	if !slices.Equal(image(t, one), image(t, other)) {
		t.Error("the disks are not the same")
	}
}

// Malformed bytes change nothing, wherever they are mixed in.
func TestMalformedBytesChangeNothing(t *testing.T) {
	one, other := blank(t, 100), blank(t, 100)
	plain, mixed := started(t, one), started(t, other)
	deal := dice(11)
	for range 300 {
		session, request := 1+deal.roll(5), bytesOf(commandOf(&deal))
		for range deal.roll(3) {
			junk := []byte(request + request)[:deal.roll(54)]
			if len(junk) == 27 {
				junk[0] = byte(22 + deal.roll(234))
			}
			if r := mixed.Handle(session, string(junk)); r != replyOf(no(api.ErrBad)) {
				t.Fatalf("%x: %x", junk, r)
			}
		}
		if r, got := plain.Handle(session, request), mixed.Handle(session, request); r != got {
			t.Fatalf("%x: %x, and %x", request, r, got)
		}
	}
	if !slices.Equal(image(t, one), image(t, other)) {
		t.Error("the disks are not the same")
	}
}

// P18.3: crashes.

// keeps is lists of how many bytes are kept of n writes: none, all, and some.
func keeps(n int, deal *dice) [][]int {
	all := slices.Repeat([]int{64}, n)
	l := [][]int{nil, all}
	for range min(n, 4) {
		but := slices.Clone(all)
		but[deal.roll(n)] = deal.roll(64)
		some := make([]int, deal.roll(n+1))
		for i := range some {
			some[i] = []int{0, 64, deal.roll(65)}[deal.roll(3)]
		}
		l = append(l, but, some, all[:deal.roll(n)])
	}
	if n == 1 {
		for kept := range 64 {
			l = append(l, []int{kept})
		}
	}
	return l
}

// scene is a hall, and a command that is done there.
type scene struct {
	*hall
	c api.Command
}

// scenes is some of them.
func scenes(t *testing.T) []scene {
	t.Helper()
	small := hallOf(t, open(1), mint(1, 9), open(2), produce(1, 3, 5), produce(2, 4, 1), send(1, 2, 3), pay(1, 2, 2), list(1, 3, 1, 2))
	great := entered(t, 300)
	deal := dice(9)
	for range 600 {
		great.do(great.chance(&deal))
	}
	// A coin, so that it can be sent.
	great.wantRows(row{7, mint(258, 1), ok()})
	return []scene{
		{entered(t, 20), open(1)},
		{small, open(3)},
		{small, pay(1, 2, 4)},
		{small, api.Command{Op: api.OpClaim, A: 2, B: 1}},
		{small, api.Command{Op: api.OpBuy, A: 2, B: 1}},
		{small, api.Command{Op: api.OpBreak, A: 2, Item: 4, N: 1}},
		{great, mint(258, 1)},
		{great, send(258, 1000000, 1)},
	}
}

func TestCrashes(t *testing.T) {
	for _, s := range scenes(t) {
		steps, then := costs(s.hall, s.c)[0], stepped(t, s.l, s.c)
		deal := dice(steps)
		for n := range steps + 1 {
			unsynced := len(s.cut(n, steps).disk.Unsynced())
			for _, keep := range keeps(unsynced, &deal) {
				h := s.cut(n, steps)
				must(t, h.disk.Crash(keep))
				h.revive(s.l, then, n == steps, n < steps-1)
			}
		}
	}
}

// cut is a twin where a limit of n was met by the scene's command, which has so many steps.
func (s scene) cut(n, steps int) *hall {
	s.Helper()
	h := s.twin()
	h.do(3, watch())
	must(s.T, h.s.Limit(n))
	if n == steps {
		h.do(1, s.c)
		return h
	}
	wantTold(s.T, h.s, 1, s.c, no(api.ErrDown))
	wantTold(s.T, h.s, 3, leave(), no(api.ErrDown))
	wantWorld(s.T, h.s, s.l)
	wantWatching(s.T, h.s, 1)
	return h
}

// revive starts a server again behind a crash, and wants the world of before or that of then: just this one, if it was acknowledged, just that one, if its meta was not written yet.
func (h *hall) revive(before, then []api.Pair, acknowledged, unwritten bool) {
	h.Helper()
	must(h.T, h.s.Restart())
	l, e := h.s.World()
	must(h.T, e)
	switch {
	case slices.Equal(l, before) && !acknowledged:
		h.l = before
	case slices.Equal(l, then) && !unwritten:
		h.l = then
	default:
		h.Fatalf("behind a crash: %x; it was %x, and was to be %x", l, before, then)
	}
	h.tx = int64(last(h.T, h.disk).Tx)
	h.seen = map[int][]api.Pair{}
	h.check()
	wantWhole(h.T, h.disk)
	// It goes on, and so does one that is new.
	h.wantRows(row{3, leave(), no(api.ErrWatch)}, row{3, watch(), ok(h.tx)}, row{2, open(77), ok()}, row{3, account(77), no(api.ErrUnknown)}, row{2, account(77), ok()})
	wantWorld(h.T, started(h.T, h.disk), h.l)
	wantWhole(h.T, h.disk)
}

// tale is a long run with limits and crashes: later is the world of the request that was answered ErrDown first.
type tale struct {
	*hall
	deal  dice
	down  bool
	later []api.Pair
	// fell and rose count how often a world of before, and one that was on its way, stood there again.
	fell, rose int
}

func TestALongRunWithCrashes(t *testing.T) {
	for seed := range dice(6) {
		r := &tale{hall: entered(t, 60), deal: seed}
		r.full = 0
		for range 2000 {
			switch r.deal.roll(30) {
			case 0:
				r.limit(r.deal.roll(60) - 3)
			case 1:
				r.crash()
			default:
				r.handle(r.chance(&r.deal))
			}
		}
		if r.fell < 5 || r.rose < 5 {
			t.Errorf("seed %d: %d worlds of before, %d of then", seed, r.fell, r.rose)
		}
	}
}

// limit sets a limit.
func (r *tale) limit(n int) {
	r.Helper()
	wanted := api.OK
	switch {
	case r.down:
		wanted = api.ErrDown
	case n < 0:
		wanted = api.ErrArg
	}
	want(r.T, "Limit", r.s.Limit(n), wanted)
}

// handle lets a request be handled that may meet a limit.
func (r *tale) handle(session int, c api.Command) {
	r.Helper()
	if r.down {
		wantTold(r.T, r.s, session, c, no(api.ErrDown))
		wantWorld(r.T, r.s, r.l)
		return
	}
	wanted, then := r.must(session, c)
	keeps := wanted.E == api.OK && c.Op < api.OpAccount
	if keeps && r.deal.roll(8) == 0 {
		// Ahead of the last sync, where a crash may let it be this world or that.
		r.limit(max(1, costs(r.hall, c)[0]) - 1)
	}
	a := told(r.T, r.s, session, c)
	if a == no(api.ErrDown) && keeps {
		r.down, r.later = true, then
		wantWorld(r.T, r.s, r.l)
		return
	}
	r.settle(session, c, a, wanted, then)
}

// crash lets the disk crash, and starts the server again.
func (r *tale) crash() {
	r.Helper()
	n := len(r.disk.Unsynced())
	keep := make([]int, n)
	for i := range keep {
		keep[i] = []int{0, 64, 64, r.deal.roll(65)}[r.deal.roll(4)]
	}
	must(r.T, r.disk.Crash(keep))
	must(r.T, r.s.Restart())
	l, e := r.s.World()
	must(r.T, e)
	switch {
	case slices.Equal(l, r.l):
		r.fell++
	case r.down && slices.Equal(l, r.later):
		r.l = l
		r.rose++
	default:
		r.Fatalf("behind a crash: %x; it was %x, and was to be %x", l, r.l, r.later)
	}
	r.down, r.later, r.seen = false, nil, map[int][]api.Pair{}
	r.tx = int64(last(r.T, r.disk).Tx)
	r.check()
	wantWhole(r.T, r.disk)
}

// All coins are those minted less those burned, in wallets, banks and mails, as the server's own replies tell.
func TestCoinsAreKept(t *testing.T) {
	h := entered(t, 1000)
	deal := dice(21)
	var minted int64
	for range 2000 {
		session, c := h.chance(&deal)
		a := h.do(session, c)
		switch {
		case a.E != api.OK:
		case c.Op == api.OpMint:
			minted += c.N
		case c.Op == api.OpBurn:
			minted -= c.N
		}
		if _, a := world.Step(h.l, total(0, 0)); a.X != minted {
			t.Fatalf("%d coins, not %d", a.X, minted)
		}
	}
	wantTold(t, h.s, 9, total(0, 0), ok(minted))
}
