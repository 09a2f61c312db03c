package txn_test

import (
	"maps"
	"slices"
	"testing"

	"bazaar/api"
)

// seen is what a reader is to read, and of which transaction.
type seen struct {
	tx    uint64
	pairs plain
}

// run is a database that much happens to, and what it is to tell.
type run struct {
	twin
	deal      dice
	keys      int
	now, then plain
	open      bool
	readers   map[int]seen
	count     int
	left      int
	// What happened.
	commits, fulls, cuts, lost int
}

// restart opens the disk anew.
func (r *run) restart() {
	r.b = opened(r.t, r.d)
	r.open, r.readers, r.count, r.left = false, map[int]seen{}, 0, 1<<30
}

// least is the oldest transaction that somebody may read.
func (r *run) least() uint64 {
	oldest := r.b.Meta().Tx
	for _, s := range r.readers {
		oldest = min(oldest, s.tx)
	}
	return oldest
}

func (r *run) beginStep() {
	if r.open {
		want(r.t, "Begin", r.b.Begin(), api.ErrBusy)
		return
	}
	r.begin(r.least())
	r.open, r.then = true, maps.Clone(r.now)
}

// changeStep puts or deletes some pairs.
func (r *run) changeStep() {
	if !r.open {
		want(r.t, "Put", r.b.Put(pair("a")), api.ErrNoTx)
		return
	}
	for range r.deal.roll(8) {
		k := keyOf(r.deal.roll(r.keys))
		if r.deal.roll(5) < 2 {
			if r.remove(k) == api.OK {
				delete(r.then, k)
			}
			continue
		}
		p := api.Pair{K: k, V: some(r.deal.roll(61))}
		if r.put(p) == api.OK {
			r.then[k] = p.V
		}
	}
	_, _, e := r.w.Get("a")
	if e == api.OK {
		wantRange(r.t, r.b, "", keyOf(r.keys/2), 30, r.then.part("", keyOf(r.keys/2), 30), e)
	} else {
		wantRange(r.t, r.b, "", "", 30, nil, e)
	}
}

func (r *run) endStep() {
	switch {
	case !r.open:
		want(r.t, "Commit", r.b.Commit(), api.ErrNoTx)
		want(r.t, "Rollback", r.b.Rollback(), api.ErrNoTx)
	case r.deal.roll(5) == 0:
		s := stateOf(r.b)
		must(r.t, r.b.Rollback())
		wantState(r.t, r.b, s)
	default:
		r.commitStep()
	}
	r.open = false
	if len(r.d.Unsynced()) > 0 {
		r.t.Errorf("unsynced: %v", r.d.Unsynced())
	}
}

func (r *run) commitStep() {
	_, _, e := r.w.Get("a")
	p, room := r.plan()
	s, ops := stateOf(r.b), r.d.Ops()
	if room && r.deal.roll(6) == 0 {
		// Around the meta.
		r.left = max(0, p.ops()-r.deal.roll(5))
		must(r.t, r.b.Limit(r.left))
	}
	switch {
	case e != api.OK, !room:
		r.fulls++
		want(r.t, "Commit", r.b.Commit(), api.ErrFull)
		wantState(r.t, r.b, s)
		if r.d.Ops() != ops {
			r.t.Errorf("%d writes and syncs", r.d.Ops()-ops)
		}
	case r.left < p.ops():
		r.cuts++
		want(r.t, "Commit", r.b.Commit(), api.ErrDown)
		if r.d.Ops()-ops != r.left {
			r.t.Errorf("%d writes and syncs, not %d", r.d.Ops()-ops, r.left)
		}
		wantState(r.t, r.b, s)
		for _, c := range calls(1) {
			wantRefused(r.t, c, r.b, api.ErrDown)
		}
		r.crash(p)
	default:
		r.commits++
		r.commit()
		r.left -= p.ops()
		r.now = r.then
	}
}

// crash crashes behind a commit that was cut.
func (r *run) crash(p plan) {
	s := stateOf(r.b)
	lists := keeps(len(r.d.Unsynced()), &r.deal)
	keep := lists[r.deal.roll(len(lists))]
	if r.left == p.ops()-1 && r.deal.roll(2) == 0 {
		keep = []int{64}
	}
	if r.left == p.ops()-1 && slices.Equal(keep, []int{64}) {
		r.lost++
		s, r.now = p.state, r.then
	}
	must(r.t, r.d.Crash(keep))
	r.restart()
	wantState(r.t, r.b, s)
}

func (r *run) readStep() {
	if len(r.readers) == 64 {
		_, e := r.b.Read()
		want(r.t, "Read", e, api.ErrMany)
		return
	}
	r.count++
	reader(r.t, r.b, r.count)
	r.readers[r.count] = seen{r.b.Meta().Tx, r.now}
}

// closeStep closes a reader, be it open or not.
func (r *run) closeStep() {
	number := r.deal.roll(r.count + 2)
	wanted := api.OK
	if _, is := r.readers[number]; !is {
		wanted = api.ErrReader
	}
	want(r.t, "Close", r.b.Close(number), wanted)
	delete(r.readers, number)
}

func (r *run) limitStep() {
	r.left = []int{r.deal.roll(60), r.deal.roll(600), 1 << 30}[r.deal.roll(3)]
	must(r.t, r.b.Limit(r.left))
}

// check wants the database, its disk and all readers to be as they are to be.
func (r *run) check() {
	r.t.Helper()
	wantPairs(r.t, r.d, r.b, r.now.list())
	wantWhole(r.t, r.d, r.b)
	for number, s := range r.readers {
		wantReadRange(r.t, r.b, number, "", "", 1000, s.pairs.list(), api.OK)
	}
}

func TestLongRuns(t *testing.T) {
	commits, fulls, cuts, lost := 0, 0, 0, 0
	for seed, pages := range []int{8, 9, 12, 20, 40, 60, 100, 100, 200, 200, 400, 1000} {
		d, b := fresh(t, pages)
		r := &run{twin: twin{t: t, d: d, b: b}, deal: dice(seed), keys: 4 + pages/2, now: plain{}}
		r.restart()
		for step := range 700 {
			switch r.deal.roll(12) {
			case 0, 1, 2, 3:
				r.beginStep()
			case 4, 5, 6:
				r.changeStep()
			case 7, 8:
				r.endStep()
			case 9:
				r.readStep()
			case 10:
				r.closeStep()
				r.closeStep()
			case 11:
				if r.deal.roll(8) > 0 {
					r.limitStep()
					break
				}
				// A crash in between, where nothing is unsynced.
				s := stateOf(r.b)
				must(t, r.d.Crash(nil))
				r.restart()
				wantState(t, r.b, s)
			}
			r.check()
			if t.Failed() {
				t.Fatalf("%d pages, step %d", pages, step)
			}
		}
		commits, fulls, cuts, lost = commits+r.commits, fulls+r.fulls, cuts+r.cuts, lost+r.lost
	}
	if commits < 100 || fulls < 30 || cuts < 60 || lost < 5 {
		t.Errorf("%d commits, %d without room, %d cut, %d of them done", commits, fulls, cuts, lost)
	}
}
