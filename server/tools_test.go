package server_test

import (
	"encoding/binary"
	"maps"
	"slices"
	"strings"
	"testing"

	"bazaar/api"
	"bazaar/cursor"
	"bazaar/disk"
	"bazaar/meta"
	"bazaar/server"
	"bazaar/txn"
	"bazaar/world"
)

// most is the greatest amount.
const most = 1152921504606846976

// Commands, by their fields.
func open(a uint32) api.Command { return api.Command{Op: api.OpOpen, A: a} }

func mint(a uint32, n int64) api.Command { return api.Command{Op: api.OpMint, A: a, N: n} }

func burn(a uint32, n int64) api.Command { return api.Command{Op: api.OpBurn, A: a, N: n} }

func produce(a uint32, item uint16, n int64) api.Command {
	return api.Command{Op: api.OpMake, A: a, Item: item, N: n}
}

func pay(a, b uint32, n int64) api.Command { return api.Command{Op: api.OpPay, A: a, B: b, N: n} }

func send(a, b uint32, n int64) api.Command { return api.Command{Op: api.OpSend, A: a, B: b, N: n} }

func list(a uint32, item uint16, m, n int64) api.Command {
	return api.Command{Op: api.OpList, A: a, Item: item, N: n, M: m}
}

func account(a uint32) api.Command { return api.Command{Op: api.OpAccount, A: a} }

func mails(a uint32) api.Command { return api.Command{Op: api.OpMails, A: a} }

func total(a uint32, item uint16) api.Command {
	return api.Command{Op: api.OpTotal, A: a, Item: item}
}

func watch() api.Command { return api.Command{Op: api.OpWatch} }

func leave() api.Command { return api.Command{Op: api.OpLeave} }

// queries is one of each kind, for account 1.
func queries() []api.Command {
	return []api.Command{account(1), {Op: api.OpCount, A: 1, Item: 3}, mails(1), total(0, 0)}
}

// ok is the answer of these numbers, no that of an error.
func ok(numbers ...int64) api.Answer {
	numbers = append(numbers, 0, 0)
	return api.Answer{X: numbers[0], Y: numbers[1]}
}

func no(e api.Errno) api.Answer { return api.Answer{E: e} }

// bytesOf is a request's bytes as chapter 17 tells them, be its Op right or not.
func bytesOf(c api.Command) string {
	b := []byte{byte(c.Op)}
	b = binary.BigEndian.AppendUint32(b, c.A)
	b = binary.BigEndian.AppendUint32(b, c.B)
	b = binary.BigEndian.AppendUint16(b, c.Item)
	b = binary.BigEndian.AppendUint64(b, uint64(c.N))
	return string(binary.BigEndian.AppendUint64(b, uint64(c.M)))
}

// replyOf is a reply's bytes as chapter 17 tells them.
func replyOf(a api.Answer) string {
	b := binary.BigEndian.AppendUint16(nil, uint16(a.E))
	b = binary.BigEndian.AppendUint64(b, uint64(a.X))
	return string(binary.BigEndian.AppendUint64(b, uint64(a.Y)))
}

// frames is texts, each framed as chapter 17 tells.
func frames(texts ...string) string {
	var b []byte
	for _, s := range texts {
		b = binary.BigEndian.AppendUint16(b, uint16(len(s)))
		b = append(b, s...)
	}
	return string(b)
}

// requests is commands' bytes, replies answers', all framed.
func requests(all ...api.Command) string {
	var l []string
	for _, c := range all {
		l = append(l, bytesOf(c))
	}
	return frames(l...)
}

func replies(all ...api.Answer) string {
	var l []string
	for _, a := range all {
		l = append(l, replyOf(a))
	}
	return frames(l...)
}

// dice is a fixed row of numbers.
type dice uint32

// roll is the next one, below n.
func (d *dice) roll(n int) int {
	*d = *d*1664525 + 1013904223
	return int(uint64(*d) * uint64(n) >> 32)
}

// must is of a call that is not refused here.
func must(t *testing.T, e api.Errno) {
	t.Helper()
	if e != api.OK {
		t.Fatalf("error %d", e)
	}
}

// want is of a call that tells an error.
func want(t *testing.T, what string, e, wanted api.Errno) {
	t.Helper()
	if e != wanted {
		t.Errorf("%s: error %d, not %d", what, e, wanted)
	}
}

// sectors is a disk of so many sectors, blank one of so many pages.
func sectors(t *testing.T, n int) *disk.Disk {
	t.Helper()
	d, e := disk.New(n)
	must(t, e)
	return d
}

func blank(t *testing.T, pages int) *disk.Disk {
	t.Helper()
	return sectors(t, pages*api.Sectors)
}

// read is a sector, image all sectors of a disk.
func read(t *testing.T, d *disk.Disk, sector int) string {
	t.Helper()
	s, e := d.Read(sector)
	must(t, e)
	return s
}

func image(t *testing.T, d *disk.Disk) []string {
	t.Helper()
	var all []string
	for i := range d.Sectors() {
		all = append(all, read(t, d, i))
	}
	return all
}

// copied is another disk with the same sectors, all synced.
func copied(t *testing.T, d *disk.Disk) *disk.Disk {
	t.Helper()
	c := sectors(t, d.Sectors())
	for i, s := range image(t, d) {
		must(t, c.Write(i, s))
	}
	must(t, c.Sync())
	return c
}

// trash lets sectors be junk, and answers what they were, for mend.
func trash(t *testing.T, d *disk.Disk, numbers ...int) map[int]string {
	t.Helper()
	was := map[int]string{}
	for _, n := range numbers {
		was[n] = read(t, d, n)
		must(t, d.Write(n, strings.Repeat("junk", 16)))
	}
	must(t, d.Sync())
	return was
}

func mend(t *testing.T, d *disk.Disk, was map[int]string) {
	t.Helper()
	for n, s := range was {
		must(t, d.Write(n, s))
	}
	must(t, d.Sync())
}

// last is the meta of a disk's last commit.
func last(t *testing.T, d *disk.Disk) api.Meta {
	t.Helper()
	m, e := meta.Load(d)
	must(t, e)
	return m
}

// planted is a disk of so many pages on which a meta stands.
func planted(t *testing.T, pages int, m api.Meta) *disk.Disk {
	t.Helper()
	d := blank(t, pages)
	must(t, meta.Store(d, m))
	must(t, d.Sync())
	return d
}

// started is a server of a disk.
func started(t *testing.T, d *disk.Disk) *server.Server {
	t.Helper()
	s, e := server.New(d)
	if s == nil || e != api.OK {
		t.Fatalf("New: %d", e)
	}
	return s
}

// told is what a server answers a session's command.
func told(t *testing.T, s *server.Server, session int, c api.Command) api.Answer {
	t.Helper()
	r := s.Handle(session, bytesOf(c))
	if len(r) != 18 {
		t.Fatalf("session %d, %+v: a reply of %d bytes", session, c, len(r))
	}
	b := []byte(r)
	a := api.Answer{E: api.Errno(binary.BigEndian.Uint16(b)), X: int64(binary.BigEndian.Uint64(b[2:])), Y: int64(binary.BigEndian.Uint64(b[10:]))}
	if replyOf(a) != r || a.E != api.OK && (a.X != 0 || a.Y != 0) {
		t.Fatalf("session %d, %+v: reply %x", session, c, r)
	}
	return a
}

// wantTold wants a server to answer this.
func wantTold(t *testing.T, s *server.Server, session int, c api.Command, wanted api.Answer) {
	t.Helper()
	if a := told(t, s, session, c); a != wanted {
		t.Errorf("session %d, %+v: %v, want %v", session, c, a, wanted)
	}
}

// wantWorld wants a server to tell these pairs.
func wantWorld(t *testing.T, s *server.Server, wanted []api.Pair) {
	t.Helper()
	if l, e := s.World(); !slices.Equal(l, wanted) || e != api.OK {
		t.Errorf("World: %x (%d), want %x", l, e, wanted)
	}
}

// wantWatching wants so many to watch.
func wantWatching(t *testing.T, s *server.Server, wanted int) {
	t.Helper()
	if n := s.Watching(); n != wanted {
		t.Errorf("%d watch, want %d", n, wanted)
	}
}

// wantDown wants a server to be down that tells these pairs yet.
func wantDown(t *testing.T, s *server.Server, wanted []api.Pair, watching int) {
	t.Helper()
	all := append(queries(), watch(), leave(), open(9), mint(1, 1), api.Command{}, api.Command{Op: 22})
	for _, session := range []int{-1, 0, 1, 2, 100, 101} {
		for _, c := range all {
			wantTold(t, s, session, c, no(api.ErrDown))
		}
		if r := s.Handle(session, "bad"); r != replyOf(no(api.ErrDown)) {
			t.Errorf("session %d: reply %x", session, r)
		}
	}
	for _, n := range []int{-1, 0, 1, 1 << 40} {
		want(t, "Limit", s.Limit(n), api.ErrDown)
	}
	wantWorld(t, s, wanted)
	wantWatching(t, s, watching)
}

// stepped is a world behind commands, none of which is refused.
func stepped(t *testing.T, l []api.Pair, commands ...api.Command) []api.Pair {
	t.Helper()
	for _, c := range commands {
		then, a := world.Step(l, c)
		if a.E != api.OK {
			t.Fatalf("%+v: %v", c, a)
		}
		l = then
	}
	return l
}

// wantWhole wants what a disk's root reaches, its chunks, and its spares to be all pages below High but the first two, each once.
func wantWhole(t *testing.T, d *disk.Disk) {
	t.Helper()
	b, e := txn.Open(d)
	must(t, e)
	l, e := cursor.Pages(d, b.Meta().Root)
	must(t, e)
	l = append(l, b.Chunks()...)
	for _, s := range b.Alloc().Spare {
		l = append(l, s.Page)
	}
	slices.Sort(l)
	for i, id := range l {
		if id != uint32(i)+2 {
			t.Fatalf("pages %v", l)
		}
	}
	if int(b.Meta().High) != len(l)+2 {
		t.Fatalf("High %d, pages %v", b.Meta().High, l)
	}
}

// hall is a server, its disk, and what it must tell by a plain world: its pairs, how many commits there were, and what those see who watch.
type hall struct {
	*testing.T
	disk *disk.Disk
	s    *server.Server
	l    []api.Pair
	tx   int64
	seen map[int][]api.Pair
	// full is how many commands were refused for want of pages: none may be, unless it is at least 0.
	full int
}

// entered is the hall of a new disk of so many pages.
func entered(t *testing.T, pages int) *hall {
	t.Helper()
	d := blank(t, pages)
	return &hall{T: t, disk: d, s: started(t, d), tx: 1, seen: map[int][]api.Pair{}, full: -1}
}

// hallOf is the hall of 200 pages behind these commands, none of which is refused.
func hallOf(t *testing.T, commands ...api.Command) *hall {
	t.Helper()
	h := entered(t, 200)
	for _, c := range commands {
		if a := h.do(1, c); a.E != api.OK {
			t.Fatalf("%+v: %v", c, a)
		}
	}
	return h
}

// twin is another hall, whose disk is a copy, and where nobody watches.
func (h *hall) twin() *hall {
	h.Helper()
	d := copied(h.T, h.disk)
	return &hall{T: h.T, disk: d, s: started(h.T, d), l: h.l, tx: h.tx, seen: map[int][]api.Pair{}, full: h.full}
}

// must is what the hall's server must answer a session's command, and the pairs then, by the chapter's words; but for want of pages.
func (h *hall) must(session int, c api.Command) (api.Answer, []api.Pair) {
	sees, watches := h.seen[session]
	switch {
	case session < 1, session > 100, c.Op < 1, c.Op > 21:
		return no(api.ErrBad), h.l
	case c.Op == api.OpWatch && watches, c.Op == api.OpLeave && !watches:
		return no(api.ErrWatch), h.l
	case c.Op == api.OpWatch && len(h.seen) == 64:
		return no(api.ErrMany), h.l
	case c.Op == api.OpWatch:
		return ok(h.tx), h.l
	case c.Op == api.OpLeave:
		return ok(), h.l
	case c.Op >= api.OpAccount && watches:
		_, a := world.Step(sees, c)
		return a, h.l
	}
	then, a := world.Step(h.l, c)
	return a, then
}

// do lets the server handle a session's command, and checks the answer, the world, who watches, and that the disk is worked on only if there is something to keep.
func (h *hall) do(session int, c api.Command) api.Answer {
	h.Helper()
	wanted, then := h.must(session, c)
	ops := h.disk.Ops()
	a := told(h.T, h.s, session, c)
	kept := a.E == api.OK && c.Op < api.OpAccount
	if did := h.disk.Ops() > ops; did != kept || len(h.disk.Unsynced()) > 0 {
		h.Fatalf("session %d, %+v: worked on the disk: %v; unsynced: %v", session, c, did, h.disk.Unsynced())
	}
	h.settle(session, c, a, wanted, then)
	return a
}

// settle checks what a session's command was answered, and what is there then.
func (h *hall) settle(session int, c api.Command, a, wanted api.Answer, then []api.Pair) {
	h.Helper()
	if a == no(api.ErrFull) && h.full >= 0 {
		h.full++
		wanted, then = a, h.l
	}
	if a != wanted {
		h.Fatalf("session %d, %+v: %v, want %v", session, c, a, wanted)
	}
	h.l = then
	switch {
	case a.E != api.OK:
	case c.Op < api.OpAccount:
		h.tx++
	case c.Op == api.OpWatch:
		h.seen[session] = then
	case c.Op == api.OpLeave:
		delete(h.seen, session)
	}
	h.check()
}

// check checks what the server tells of itself, and which commit the disk's last one is.
func (h *hall) check() {
	h.Helper()
	wantWorld(h.T, h.s, h.l[:min(len(h.l), 1000)])
	wantWatching(h.T, h.s, len(h.seen))
	if m := last(h.T, h.disk); m.Tx != uint64(h.tx) {
		h.Fatalf("the last commit is %d, not %d", m.Tx, h.tx)
	}
	if h.Failed() {
		h.FailNow()
	}
}

// row is a session's command, and what it must answer.
type row struct {
	session int
	c       api.Command
	want    api.Answer
}

// wantRows lets commands be handled, and checks the answers by hand.
func (h *hall) wantRows(rows ...row) {
	h.Helper()
	for i, r := range rows {
		if a := h.do(r.session, r.c); a != r.want {
			h.Fatalf("row %d: session %d, %+v: %v, want %v", i, r.session, r.c, a, r.want)
		}
	}
}

// restart starts the server again, which is not refused here.
func (h *hall) restart() {
	h.Helper()
	must(h.T, h.s.Restart())
	h.seen = map[int][]api.Pair{}
	h.check()
}

// watchers is the sessions that watch, rising.
func (h *hall) watchers() []int { return slices.Sorted(maps.Keys(h.seen)) }
