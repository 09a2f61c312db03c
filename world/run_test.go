package world_test

import (
	"math"
	"slices"
	"testing"

	"bazaar/api"
	"bazaar/disk"
	"bazaar/txn"
	"bazaar/world"
)

// P16.2: Run, Ask, and what the database tells of them.

// tries is a command of each Op, that of none too, with fields that it would be refused for, and with others.
func tries() []api.Command {
	var l []api.Command
	for _, op := range append(everyOp(), noOps()...) {
		l = append(l, api.Command{Op: op}, api.Command{Op: op, A: 1, B: 2, Item: 4, N: 1, M: 1}, api.Command{Op: op, A: 1, B: 1, N: -1, M: -1}, api.Command{Op: op, A: math.MaxUint32, B: math.MaxUint32, Item: 65535, N: math.MaxInt64, M: math.MinInt64})
	}
	return l
}

// wantRun checks that Run tells an error of all tries, and nothing beside it.
func wantRun(t *testing.T, b *txn.DB, e api.Errno) {
	t.Helper()
	for _, c := range tries() {
		if a := world.Run(b, c); a != no(e) {
			t.Fatalf("Run(%+v): %v, want %d", c, a, e)
		}
	}
}

// wantAsk checks that Ask tells ErrArg of all that is no query, and an error of all queries.
func wantAsk(t *testing.T, b *txn.DB, reader int, e api.Errno) {
	t.Helper()
	for _, c := range tries() {
		want := no(api.ErrArg)
		if slices.Contains(queries(), c.Op) {
			want = no(e)
		}
		if a := world.Ask(b, reader, c); a != want {
			t.Fatalf("Ask(%d, %+v): %v, want %v", reader, c, a, want)
		}
	}
}

// some is commands that let there be a world in which all tries have their numbers.
func some() []api.Command {
	return []api.Command{open(1), open(2), mint(1, 9), deposit(1, 4), mint(2, 3), produce(1, 4, 9), send(1, 2, 1, 4, 2), send(2, 1, 1, 0, 0), list(1, 4, 1, 2)}
}

func TestOfNoDatabase(t *testing.T) {
	wantRun(t, nil, api.ErrNil)
	wantRun(t, &txn.DB{}, api.ErrNil)
	for _, reader := range []int{math.MinInt, -1, 0, 1, math.MaxInt} {
		wantAsk(t, nil, reader, api.ErrNil)
		wantAsk(t, &txn.DB{}, reader, api.ErrNil)
	}
}

func TestWithoutTransaction(t *testing.T) {
	_, b := fresh(t, 100)
	wantRun(t, b, api.ErrNoTx)
	must(t, b.Begin())
	for _, c := range some() {
		must(t, world.Run(b, c).E)
	}
	must(t, b.Commit())
	wantRun(t, b, api.ErrNoTx)
	r, e := b.Read()
	must(t, e)
	wantRun(t, b, api.ErrNoTx)
	must(t, b.Begin())
	if a := world.Run(b, account(1)); a != ok(4, 4) {
		t.Error(a)
	}
	must(t, b.Rollback())
	wantRun(t, b, api.ErrNoTx)
	must(t, b.Close(r))
	must(t, b.Begin())
	if a := world.Run(b, open(3)); a != ok() {
		t.Error(a)
	}
}

// down is a database whose commit was cut, and a reader that was open.
func down(t *testing.T) (*txn.DB, int) {
	t.Helper()
	s := worldOf(t, some()...)
	must(t, s.base.Commit())
	r, e := s.base.Read()
	must(t, e)
	must(t, s.base.Begin())
	must(t, world.Run(s.base, open(3)).E)
	must(t, s.base.Limit(1))
	if e := s.base.Commit(); e != api.ErrDown {
		t.Fatalf("Commit: %d", e)
	}
	return s.base, r
}

func TestOfDown(t *testing.T) {
	b, r := down(t)
	wantRun(t, b, api.ErrDown)
	for _, reader := range []int{r, 0, -1, r + 1} {
		wantAsk(t, b, reader, api.ErrDown)
	}
}

// A command that is refused for want of pages: the transaction tells that from then on, and rolled back it leaves the world as it was.
func TestFull(t *testing.T) {
	for _, pages := range []int{8, 9, 10, 12, 16, 24} {
		told := make(map[api.Errno]int)
		_, b := fresh(t, pages)
		var l []api.Pair
		for id := uint32(1); told[api.ErrFull] < 20; id++ {
			must(t, b.Begin())
			c := open(id)
			if id%3 == 0 {
				c = produce(id/3, uint16(id%7), 1)
			}
			then, want := world.Step(l, c)
			a := world.Run(b, c)
			told[a.E]++
			switch {
			case a.E == api.ErrFull:
				wantFull(t, b)
				must(t, b.Rollback())
			case a != want:
				t.Fatalf("%+v: Run %v, Step %v", c, a, want)
			case !slices.Equal(all(t, b), then):
				t.Fatalf("%+v: %x, want %x", c, all(t, b), then)
			case a.E != api.OK:
				must(t, b.Rollback())
			case b.Commit() == api.OK:
				l = then
			default:
				told[api.ErrFull]++
			}
			must(t, b.Begin())
			if got := all(t, b); !slices.Equal(got, l) {
				t.Fatalf("%+v: %x, want %x", c, got, l)
			}
			must(t, b.Rollback())
		}
		if told[api.OK] == 0 || told[api.ErrFull] == 0 {
			t.Errorf("%d pages: %v", pages, told)
		}
	}
}

// wantFull checks that all that needs a look tells that pages were wanting.
func wantFull(t *testing.T, b *txn.DB) {
	t.Helper()
	for _, c := range []api.Command{account(1), count(1, 4), mails(1), total(0, 0), open(77), mint(1, 1), pay(1, 2, 1), claim(1, 1)} {
		if a := world.Run(b, c); a != no(api.ErrFull) {
			t.Fatalf("%+v behind ErrFull: %v", c, a)
		}
	}
}

// Within one transaction, too, up to its pages' end; a commit is refused then.
func TestFullWithin(t *testing.T) {
	for _, next := range []func(i uint32) row{
		func(i uint32) row { return row{open(i + 1), ok()} },
		func(i uint32) row { return row{send(1, 1, 1, 0, 0), ok(int64(i))} },
		func(i uint32) row { return row{list(1, 4, 1, 1), ok(int64(i))} },
	} {
		for pages := 8; pages < 16; pages++ {
			filled(t, pages, next)
		}
	}
}

// filled does commands, the first one and so on, in one transaction, until pages are wanting.
func filled(t *testing.T, pages int, next func(i uint32) row) {
	t.Helper()
	_, b := fresh(t, pages)
	must(t, b.Begin())
	for _, c := range []api.Command{open(1), mint(1, 1000), produce(1, 4, 1000)} {
		must(t, world.Run(b, c).E)
	}
	for i := uint32(1); ; i++ {
		r := next(i)
		a := world.Run(b, r.c)
		// What is refused tells no number; what is told as done is there.
		if a == no(api.ErrFull) {
			break
		}
		if told := world.Run(b, mails(1)); a != r.want || told.E != api.OK {
			t.Fatalf("%d pages: %+v: %v, want %v; behind it %v", pages, r.c, a, r.want, told)
		}
	}
	wantFull(t, b)
	if e := b.Commit(); e != api.ErrFull {
		t.Errorf("%d pages: Commit: %d", pages, e)
	}
	must(t, b.Begin())
	if l := all(t, b); len(l) != 0 {
		t.Errorf("%d pages: %x", pages, l)
	}
	if a := world.Run(b, account(1)); a != no(api.ErrUnknown) {
		t.Errorf("%d pages: %v", pages, a)
	}
}

// Commands that put and delete pairs of several pages, with fewer and fewer pages left.
func TestFullAmidst(t *testing.T) {
	for _, c := range []api.Command{claim(2, 1), sendBack(2, 1), buy(2, 1), cancel(1, 1), destroy(1, 4, 6), give(1, 2, 4, 6), send(1, 2, 4, 4, 6), list(1, 4, 6, 1)} {
		told := make(map[api.Errno]int)
		for opened := range uint32(60) {
			told[crowded(t, opened, c)]++
		}
		if told[api.OK] == 0 || told[api.ErrFull] == 0 || len(told) != 2 {
			t.Errorf("%+v: %v", c, told)
		}
	}
}

// crowded is what a command tells in a transaction in which so many accounts were opened: all of it is done, or it is refused.
func crowded(t *testing.T, opened uint32, c api.Command) api.Errno {
	t.Helper()
	s := stood(t, 14)
	for _, c := range some() {
		must(t, s.do(c).E)
	}
	must(t, s.base.Commit())
	must(t, s.base.Begin())
	for i := range opened {
		if a := world.Run(s.base, open(3+i)); a == no(api.ErrFull) {
			return a.E
		}
		s.l, _ = s.step(open(3 + i))
	}
	l, want := s.step(c)
	a := world.Run(s.base, c)
	if a == no(api.ErrFull) {
		wantFull(t, s.base)
		return a.E
	}
	if got := all(t, s.base); a != want || !slices.Equal(got, l) {
		t.Fatalf("behind %d accounts %+v: %v, want %v, and %x", opened, c, a, want, got)
	}
	return a.E
}

// A page that was torn is told, by Run and Ask, of each command that looks at it.
func TestTorn(t *testing.T) {
	s := worldOf(t, some()...)
	must(t, s.base.Commit())
	r, e := s.base.Read()
	must(t, e)
	must(t, s.disk.Write(int(s.base.Meta().Root)*api.Sectors, "torn"))
	must(t, s.base.Begin())
	for _, c := range []api.Command{open(3), mint(1, 1), burn(1, 1), produce(1, 4, 1), destroy(1, 4, 1), pay(1, 2, 1), deposit(1, 1), withdraw(1, 1), give(1, 2, 4, 1), send(1, 2, 1, 0, 0), claim(2, 1), sendBack(2, 1), list(1, 4, 1, 1), buy(2, 1), cancel(1, 1), account(1), count(1, 4), mails(1), total(0, 0), total(1, 4)} {
		if a := world.Run(s.base, c); a != no(api.ErrTree) {
			t.Errorf("Run(%+v): %v", c, a)
		}
		if a := world.Ask(s.base, r, c); world.IsQuery(c.Op) && a != no(api.ErrTree) {
			t.Errorf("Ask(%+v): %v", c, a)
		}
	}
}

func TestReadersThatAreNotOpen(t *testing.T) {
	s := worldOf(t, some()...)
	for _, reader := range []int{math.MinInt, -1, 0, 1, 2, 64, math.MaxInt} {
		wantAsk(t, s.base, reader, api.ErrReader)
	}
	must(t, s.base.Commit())
	r, e := s.base.Read()
	must(t, e)
	wantAsk(t, s.base, r+1, api.ErrReader)
	wantAsk(t, s.base, r-1, api.ErrReader)
	if a := world.Ask(s.base, r, account(1)); a != ok(4, 4) {
		t.Error(a)
	}
	must(t, s.base.Close(r))
	wantAsk(t, s.base, r, api.ErrReader)
	// What the reader is told goes ahead of what the query is told.
	if a := world.Ask(s.base, r, total(2, 0)); a != no(api.ErrReader) {
		t.Error(a)
	}
}

func TestAskByHand(t *testing.T) {
	s := worldOf(t, some()...)
	must(t, s.base.Commit())
	r, e := s.base.Read()
	must(t, e)
	for _, open := range []bool{false, true} {
		if open {
			must(t, s.base.Begin())
		}
		for _, x := range []row{
			{account(1), ok(4, 4)}, {account(2), ok(2)}, {account(3), no(api.ErrUnknown)}, {count(1, 4), ok(6)}, {count(2, 4), ok()}, {count(9, 4), no(api.ErrUnknown)},
			{mails(1), ok(1, 2)}, {mails(2), ok(1, 1)}, {mails(0), no(api.ErrUnknown)}, {total(0, 0), ok(12)}, {total(1, 4), ok(9)}, {total(1, 5), ok()}, {total(0, 4), no(api.ErrArg)}, {total(2, 0), no(api.ErrArg)},
		} {
			if a := world.Ask(s.base, r, x.c); a != x.want {
				t.Errorf("%+v: %v, want %v", x.c, a, x.want)
			}
		}
	}
}

// All that is no query is refused ahead of all else, and does nothing.
func TestAskIsForQueries(t *testing.T) {
	s := worldOf(t, some()...)
	must(t, s.base.Commit())
	r, e := s.base.Read()
	must(t, e)
	b, downReader := down(t)
	must(t, s.base.Begin())
	for _, c := range tries() {
		if slices.Contains(queries(), c.Op) {
			continue
		}
		for _, a := range []api.Answer{world.Ask(s.base, r, c), world.Ask(s.base, 0, c), world.Ask(nil, 1, c), world.Ask(b, downReader, c)} {
			if a != no(api.ErrArg) {
				t.Fatalf("%+v: %v", c, a)
			}
		}
	}
	if got := all(t, s.base); !slices.Equal(got, s.l) {
		t.Errorf("%x, want %x", got, s.l)
	}
}

// wantAsked checks that Ask answers of a reader what Step answers of its list.
func wantAsked(t *testing.T, b *txn.DB, reader int, l []api.Pair, numbers ...uint32) {
	t.Helper()
	for _, op := range queries() {
		for _, a := range numbers {
			for _, item := range []uint16{0, 4, 10, 65535} {
				c := api.Command{Op: op, A: a, Item: item}
				then, want := world.Step(l, c)
				if got := world.Ask(b, reader, c); got != want {
					t.Fatalf("Ask(%d, %+v): %v, want %v", reader, c, got, want)
				}
				if !slices.Equal(then, l) {
					t.Fatalf("%+v changed a list", c)
				}
			}
		}
	}
}

// A reader tells its own commit's world, whatever was done since, and be it in the transaction that is open.
func TestReadersOfOldWorlds(t *testing.T) {
	s := stood(t, 600)
	worlds := make(map[int][]api.Pair)
	keep := func() {
		t.Helper()
		r, e := s.base.Read()
		must(t, e)
		worlds[r] = s.l
	}
	keep()
	for _, c := range slices.Concat(some(), twenty(2), []api.Command{sendBack(2, 1), buy(2, 1), claim(1, 2), destroy(1, 4, 6), burn(1, 1), open(9)}) {
		if a := s.do(c); a.E != api.OK && a.E != api.ErrSlots {
			t.Fatalf("%+v: %v", c, a)
		}
		for r, l := range worlds {
			wantAsked(t, s.base, r, l, 0, 1, 2, 9)
		}
		must(t, s.base.Commit())
		keep()
		must(t, s.base.Begin())
	}
	if len(worlds) < 30 {
		t.Errorf("%d worlds", len(worlds))
	}
}

// What was done in a transaction that is rolled back was not done.
func TestRolledBack(t *testing.T) {
	s := worldOf(t, some()...)
	must(t, s.base.Commit())
	must(t, s.base.Begin())
	l, plain := s.l, s.plain.clone()
	for _, c := range []api.Command{open(3), pay(1, 2, 3), send(1, 3, 1, 4, 2), claim(2, 1), buy(2, 1), burn(2, 1), produce(3, 5, 1), sendBack(3, 3)} {
		must(t, s.do(c).E)
	}
	must(t, s.base.Rollback())
	must(t, s.base.Begin())
	if got := all(t, s.base); !slices.Equal(got, l) {
		t.Fatalf("%x, want %x", got, l)
	}
	s.l, s.plain = l, plain
	s.wantRows(row{account(3), no(api.ErrUnknown)}, row{account(1), ok(4, 4)}, row{send(1, 2, 1, 0, 0), ok(3)}, row{list(1, 4, 1, 1), ok(2)})
}

// What was committed is there when the disk's database is opened anew, what was not is not.
func TestOpenedAnew(t *testing.T) {
	s := worldOf(t, some()...)
	must(t, s.base.Commit())
	must(t, s.base.Begin())
	must(t, world.Run(s.base, open(3)).E)
	b, e := txn.Open(s.disk)
	must(t, e)
	must(t, b.Begin())
	if got := all(t, b); !slices.Equal(got, s.l) {
		t.Fatalf("%x, want %x", got, s.l)
	}
	s.base = b
	s.wantRows(row{account(3), no(api.ErrUnknown)}, row{claim(2, 1), ok()}, row{count(2, 4), ok(2)})
}

// Wherever a commit of a command is cut, there is the world ahead of it, or behind it.
func TestCut(t *testing.T) {
	ahead := worldOf(t, some()...).l
	behind, _ := world.Step(ahead, buy(2, 1))
	seen := make(map[bool]int)
	for limit := range 60 {
		s := worldOf(t, some()...)
		must(t, s.base.Commit())
		must(t, s.base.Begin())
		must(t, world.Run(s.base, buy(2, 1)).E)
		must(t, s.base.Limit(limit))
		e := s.base.Commit()
		must(t, s.disk.Crash(keeps(s.disk)))
		b, opened := txn.Open(s.disk)
		must(t, opened)
		must(t, b.Begin())
		got := all(t, b)
		if !slices.Equal(got, ahead) && !slices.Equal(got, behind) || e == api.OK && !slices.Equal(got, behind) {
			t.Fatalf("cut ahead of %d: %x", limit, got)
		}
		seen[slices.Equal(got, behind)]++
	}
	if seen[true] == 0 || seen[false] == 0 {
		t.Error(seen)
	}
}

// keeps is how many bytes of each unsynced write of a disk are kept: some of them.
func keeps(d *disk.Disk) []int {
	var l []int
	for i := range d.Unsynced() {
		l = append(l, i*29%65)
	}
	return l
}
