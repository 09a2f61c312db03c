package world_test

import (
	"encoding/binary"
	"math"
	"slices"
	"testing"

	"bazaar/api"
	"bazaar/disk"
	"bazaar/txn"
	"bazaar/world"
)

// most is the greatest amount.
const most = 1152921504606846976

// Commands, by their fields.
func open(a uint32) api.Command { return api.Command{Op: api.OpOpen, A: a} }

func mint(a uint32, n int64) api.Command { return api.Command{Op: api.OpMint, A: a, N: n} }

func burn(a uint32, n int64) api.Command { return api.Command{Op: api.OpBurn, A: a, N: n} }

func produce(a uint32, item uint16, n int64) api.Command {
	return api.Command{Op: api.OpMake, A: a, Item: item, N: n}
}

func destroy(a uint32, item uint16, n int64) api.Command {
	return api.Command{Op: api.OpBreak, A: a, Item: item, N: n}
}

func pay(a, b uint32, n int64) api.Command { return api.Command{Op: api.OpPay, A: a, B: b, N: n} }

func deposit(a uint32, n int64) api.Command { return api.Command{Op: api.OpDeposit, A: a, N: n} }

func withdraw(a uint32, n int64) api.Command { return api.Command{Op: api.OpWithdraw, A: a, N: n} }

func give(a, b uint32, item uint16, n int64) api.Command {
	return api.Command{Op: api.OpGive, A: a, B: b, Item: item, N: n}
}

// send sends n coins, and m of an item.
func send(a, b uint32, n int64, item uint16, m int64) api.Command {
	return api.Command{Op: api.OpSend, A: a, B: b, Item: item, N: n, M: m}
}

func claim(a, number uint32) api.Command { return api.Command{Op: api.OpClaim, A: a, B: number} }

func sendBack(a, number uint32) api.Command { return api.Command{Op: api.OpReturn, A: a, B: number} }

// list lists m of an item, at the price n.
func list(a uint32, item uint16, m, n int64) api.Command {
	return api.Command{Op: api.OpList, A: a, Item: item, N: n, M: m}
}

func buy(a, number uint32) api.Command { return api.Command{Op: api.OpBuy, A: a, B: number} }

func cancel(a, number uint32) api.Command { return api.Command{Op: api.OpCancel, A: a, B: number} }

func account(a uint32) api.Command { return api.Command{Op: api.OpAccount, A: a} }

func count(a uint32, item uint16) api.Command {
	return api.Command{Op: api.OpCount, A: a, Item: item}
}

func mails(a uint32) api.Command { return api.Command{Op: api.OpMails, A: a} }

func total(a uint32, item uint16) api.Command {
	return api.Command{Op: api.OpTotal, A: a, Item: item}
}

// ok is the answer of these numbers, no that of an error.
func ok(numbers ...int64) api.Answer {
	numbers = append(numbers, 0, 0)
	return api.Answer{X: numbers[0], Y: numbers[1]}
}

func no(e api.Errno) api.Answer { return api.Answer{E: e} }

// edges is the numbers at the ends of what is an amount, and of what is a number.
func edges() []int64 {
	return []int64{math.MinInt64, -1, 0, 1, most - 1, most, most + 1, math.MaxInt64}
}

// strangers is numbers that no account has.
func strangers() []uint32 { return []uint32{0, 9, 1000001, 1 << 31, math.MaxUint32} }

// everyOp is the commands' Ops, queries those of the queries, noOps numbers that are none of a world's.
func everyOp() []int {
	var l []int
	for op := api.OpOpen; op <= api.OpTotal; op++ {
		l = append(l, op)
	}
	return l
}

func queries() []int { return []int{api.OpAccount, api.OpCount, api.OpMails, api.OpTotal} }

func noOps() []int {
	return []int{math.MinInt, -1 << 32, -256, -19, -2, -1, 0, 20, 21, 22, 100, 256, 257, 275, 1<<32 + 1, 1<<32 + 16, math.MaxInt}
}

// dice is a fixed row of numbers.
type dice uint32

// roll is the next one, below n.
func (d *dice) roll(n int) int {
	*d = *d*1664525 + 1013904223
	return int(uint64(*d) * uint64(n) >> 32)
}

// pick is one of a list.
func pick[T any](d *dice, l ...T) T { return l[d.roll(len(l))] }

// clone is the same pairs in other memory, without spare room.
func clone(l []api.Pair) []api.Pair { return append(make([]api.Pair, 0, len(l)), l...) }

// must is of a call that is not refused here.
func must(t *testing.T, e api.Errno) {
	t.Helper()
	if e != api.OK {
		t.Fatalf("error %d", e)
	}
}

// fresh is a disk of so many pages that was formatted, and its database.
func fresh(t *testing.T, pages int) (*disk.Disk, *txn.DB) {
	t.Helper()
	d, e := disk.New(pages * api.Sectors)
	must(t, e)
	must(t, txn.Format(d))
	b, e := txn.Open(d)
	must(t, e)
	return d, b
}

// all is all pairs of a database's open transaction.
func all(t *testing.T, b *txn.DB) []api.Pair {
	t.Helper()
	l, e := b.Range("", "", api.MaxRange)
	must(t, e)
	return l
}

// planted lets pairs be in a database's open transaction.
func planted(t *testing.T, b *txn.DB, l ...api.Pair) {
	t.Helper()
	for _, p := range l {
		must(t, b.Put(p))
	}
}

// stand is one world three times: by plain tables, as a list, and in the open transaction of a database.
type stand struct {
	*testing.T
	plain *plain
	l     []api.Pair
	disk  *disk.Disk
	base  *txn.DB
}

// stood is a stand where nothing is, on so many pages.
func stood(t *testing.T, pages int) *stand {
	t.Helper()
	d, b := fresh(t, pages)
	must(t, b.Begin())
	return &stand{T: t, plain: nobody(), disk: d, base: b}
}

// worldOf is a stand behind these commands, none of which is refused.
func worldOf(t *testing.T, commands ...api.Command) *stand {
	t.Helper()
	s := stood(t, 200)
	for _, c := range commands {
		if a := s.do(c); a.E != api.OK {
			t.Fatalf("%+v: %v", c, a)
		}
	}
	return s
}

// step is what Step answers of the stand's list, whose memory and spare room must be left alone, and not be handed out.
func (s *stand) step(c api.Command) ([]api.Pair, api.Answer) {
	s.Helper()
	junk := api.Pair{K: "junk", V: "junk"}
	roomy := append(make([]api.Pair, 0, len(s.l)+9), s.l...)
	for i := len(roomy); i < cap(roomy); i++ {
		roomy[:cap(roomy)][i] = junk
	}
	was := clone(roomy[:cap(roomy)])
	then, a := world.Step(roomy, c)
	if !slices.Equal(roomy[:cap(roomy)], was) {
		s.Fatalf("Step(%+v) changed what it was handed", c)
	}
	told := clone(then)
	for i := range cap(then) {
		then[:cap(then)][i] = junk
	}
	if !slices.Equal(roomy[:cap(roomy)], was) {
		s.Fatalf("Step(%+v) shares what it was handed", c)
	}
	return told, a
}

// do does a command in all three, and checks that they tell one answer, that what is there then are the same pairs, and that these add up.
func (s *stand) do(c api.Command) api.Answer {
	s.Helper()
	was := s.plain.pairs()
	want := s.plain.do(c)
	l, stepped := s.step(c)
	ran := world.Run(s.base, c)
	if stepped != want || ran != want {
		s.Fatalf("%+v: Step %v, Run %v, want %v", c, stepped, ran, want)
	}
	pairs := s.plain.pairs()
	if want.E != api.OK && (want.X != 0 || want.Y != 0 || !slices.Equal(was, pairs)) {
		s.Fatalf("%+v: the plain world is wrong", c)
	}
	if !slices.Equal(l, pairs) {
		s.Fatalf("%+v: behind Step %x, want %x", c, l, pairs)
	}
	if got := all(s.T, s.base); !slices.Equal(got, pairs) {
		s.Fatalf("%+v: behind Run %x, want %x", c, got, pairs)
	}
	s.l = l
	if world.IsQuery(c.Op) && !slices.Equal(was, l) {
		s.Fatalf("%+v: the query changed %x to %x", c, was, l)
	}
	s.wantKept(c)
	return want
}

// row is a command, and what it must answer.
type row struct {
	c    api.Command
	want api.Answer
}

// wantRows does commands, and checks the answers by hand.
func (s *stand) wantRows(rows ...row) {
	s.Helper()
	for i, r := range rows {
		if a := s.do(r.c); a != r.want {
			s.Fatalf("row %d: %+v: %v, want %v", i, r.c, a, r.want)
		}
	}
}

// tried is what a command answers; behind it the stand is as it was.
func (s *stand) tried(c api.Command) api.Answer {
	s.Helper()
	plain, l := s.plain, s.l
	s.plain = plain.clone()
	must(s.T, s.base.Commit())
	must(s.T, s.base.Begin())
	a := s.do(c)
	must(s.T, s.base.Rollback())
	must(s.T, s.base.Begin())
	s.plain, s.l = plain, l
	if got := all(s.T, s.base); !slices.Equal(got, l) {
		s.Fatalf("%+v, rolled back: %x, want %x", c, got, l)
	}
	return a
}

// wantTried checks by hand what commands answer, each of the stand as it is.
func (s *stand) wantTried(rows ...row) {
	s.Helper()
	for i, r := range rows {
		if a := s.tried(r.c); a != r.want {
			s.Fatalf("row %d: %+v: %v, want %v", i, r.c, a, r.want)
		}
	}
}

// wantPairs checks the stand's pairs, keys and values turn by turn.
func (s *stand) wantPairs(texts ...string) {
	s.Helper()
	var want []api.Pair
	for i := 0; i < len(texts); i += 2 {
		want = append(want, api.Pair{K: texts[i], V: texts[i+1]})
	}
	if !slices.Equal(s.l, want) {
		s.Fatalf("pairs %x, want %x", s.l, want)
	}
}

// sums is what pairs tell of coins, or of an item: what somebody has, and what is told of all.
type sums struct{ held, total int64 }

// wantKept checks that what the stand's pairs hold adds up to what they tell of all, and to what was made less what was unmade, by their bytes alone.
func (s *stand) wantKept(c api.Command) {
	s.Helper()
	coins, things := added(s.l)
	if coins.held != coins.total || coins.total != s.plain.minted-s.plain.burned {
		s.Fatalf("%+v: coins %v, minted %d, burned %d", c, coins, s.plain.minted, s.plain.burned)
	}
	for item, n := range things {
		if n.held != n.total || n.total != s.plain.made[item]-s.plain.broken[item] {
			s.Fatalf("%+v: item %d: %v, made %d, broken %d", c, item, n, s.plain.made[item], s.plain.broken[item])
		}
	}
}

// added is what all pairs tell, of coins and of each item.
func added(l []api.Pair) (sums, map[uint16]sums) {
	var coins sums
	things := make(map[uint16]sums)
	hold := func(item uint16, n int64) {
		s := things[item]
		s.held += n
		things[item] = s
	}
	for _, p := range l {
		k, v := []byte(p.K), []byte(p.V)
		switch k[0] {
		case 'a':
			coins.held += amountOf(v) + amountOf(v[8:])
		case 'i':
			hold(binary.BigEndian.Uint16(k[5:]), amountOf(v))
		case 'm':
			coins.held += amountOf(v[4:])
			hold(binary.BigEndian.Uint16(v[12:]), amountOf(v[14:]))
		case 's':
			hold(binary.BigEndian.Uint16(v[4:]), amountOf(v[6:]))
		case 't':
			if k[1] == 0 {
				coins.total = amountOf(v)
				continue
			}
			item := binary.BigEndian.Uint16(k[2:])
			s := things[item]
			s.total = amountOf(v)
			things[item] = s
		}
	}
	return coins, things
}

// amountOf is the amount in the first eight bytes.
func amountOf(b []byte) int64 { return int64(binary.BigEndian.Uint64(b)) }
