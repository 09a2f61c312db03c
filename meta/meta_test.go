package meta_test

import (
	"encoding/binary"
	"math"
	"slices"
	"strings"
	"testing"

	"bazaar/api"
	"bazaar/disk"
	"bazaar/meta"
)

// plain is a meta's bytes as the chapter tells them, by the library's means, be the meta right or not.
func plain(m api.Meta) string {
	b := binary.BigEndian.AppendUint64(nil, m.Tx)
	b = binary.BigEndian.AppendUint32(b, m.Root)
	b = binary.BigEndian.AppendUint32(b, m.High)
	b = binary.BigEndian.AppendUint32(b, m.Free)
	for len(b) < 56 {
		b = append(b, 0)
	}
	return string(binary.BigEndian.AppendUint64(b, m.Tx))
}

// txs is transactions of metas, odd and even ones, those at the edges among them.
func txs() []uint64 {
	all := []uint64{1, 2, 3, 4, 127, 128, 254, 255, 256, 257, 258, 259, 65535, 65536, 0x0102030405060708}
	for _, bits := range []int{24, 31, 32, 33, 48, 56, 63} {
		all = append(all, 1<<bits-1, 1<<bits, 1<<bits+1)
	}
	return append(all, math.MaxUint64-1, math.MaxUint64)
}

// rightMetas is metas that are right, those at the edges among them.
func rightMetas() []api.Meta {
	var all []api.Meta
	for _, tx := range txs() {
		for _, high := range []uint32{2, 3, 4, 255, 256, 257, 258, 16383, 16384} {
			for _, root := range []uint32{0, 2, high / 2, high - 1} {
				for _, free := range []uint32{0, 2, high / 2, high - 1} {
					// Of a small High, some of these are no pages.
					if (root == 0 || root >= 2 && root < high) && (free == 0 || free >= 2 && free < high) {
						all = append(all, api.Meta{Tx: tx, Root: root, High: high, Free: free})
					}
				}
			}
		}
	}
	return all
}

// wrongMetas is metas that are not right.
func wrongMetas() []api.Meta {
	ok := api.Meta{Tx: 7, Root: 5, High: 9, Free: 6}
	all := []api.Meta{
		{}, {Tx: 1}, {Tx: 1, High: 1}, {High: 2}, {High: 16384, Root: 2, Free: 3},
		{Tx: 1, High: 2, Root: 2}, {Tx: 1, High: 2, Free: 2}, {Tx: 2, High: 3, Root: 2, Free: 3}, {Tx: 2, High: 3, Root: 3, Free: 2},
		{Tx: 1, High: 16384, Root: 16384}, {Tx: 1, High: 16384, Free: 16384},
	}
	none := ok
	none.Tx = 0
	all = append(all, none)
	for _, high := range []uint32{0, 1, 16385, 16386, 32768, 65536, 65538, 1 << 30, 1<<31 + 9, math.MaxUint32} {
		m := ok
		m.High = high
		all = append(all, m, api.Meta{Tx: 7, High: high})
	}
	for _, id := range []uint32{1, 9, 10, 256, 258, 16383, 16384, 65536, 65538, 1<<31 + 5, math.MaxUint32} {
		m := ok
		m.Root = id
		all = append(all, m)
		m = ok
		m.Free = id
		all = append(all, m)
	}
	return all
}

// made is a new disk.
func made(t *testing.T, sectors int) *disk.Disk {
	t.Helper()
	d, e := disk.New(sectors)
	if d == nil || e != api.OK {
		t.Fatalf("New(%d): %v %v", sectors, d, e)
	}
	return d
}

// lay writes bytes into a sector by the disk alone.
func lay(t *testing.T, d *disk.Disk, sector int, s string) {
	t.Helper()
	if e := d.Write(sector, s); e != api.OK {
		t.Fatalf("Write(%d): %v", sector, e)
	}
}

// store stores a meta, and must not be refused.
func store(t *testing.T, d *disk.Disk, m api.Meta) {
	t.Helper()
	if e := meta.Store(d, m); e != api.OK {
		t.Fatalf("Store(%v): %v", m, e)
	}
}

// crash crashes, and must not be refused.
func crash(t *testing.T, d *disk.Disk, keep ...int) {
	t.Helper()
	if e := d.Crash(keep); e != api.OK {
		t.Fatalf("Crash(%v): %v", keep, e)
	}
}

// bytesOf is all that is read of a disk.
func bytesOf(t *testing.T, d *disk.Disk) string {
	t.Helper()
	var all strings.Builder
	for i := range d.Sectors() {
		s, e := d.Read(i)
		if e != api.OK {
			t.Fatalf("Read(%d): %v", i, e)
		}
		all.WriteString(s)
	}
	return all.String()
}

// wantDecoded checks that bytes are a meta's.
func wantDecoded(t *testing.T, s string, want api.Meta) {
	t.Helper()
	if m, e := meta.Decode(s); m != want || e != api.OK {
		t.Fatalf("Decode(%x): %v %v, want %v", s, m, e, want)
	}
}

// wantNone checks that bytes are no meta's.
func wantNone(t *testing.T, s string) {
	t.Helper()
	if m, e := meta.Decode(s); m != (api.Meta{}) || e != api.ErrMeta {
		t.Fatalf("Decode(%x): %v %v", s, m, e)
	}
}

// wantLoaded checks which meta is loaded.
func wantLoaded(t *testing.T, d *disk.Disk, want api.Meta) {
	t.Helper()
	if m, e := meta.Load(d); m != want || e != api.OK {
		t.Fatalf("Load: %v %v, want %v", m, e, want)
	}
}

// wantUnloaded checks that no meta is loaded, and which error is told.
func wantUnloaded(t *testing.T, d *disk.Disk, want api.Errno) {
	t.Helper()
	if m, e := meta.Load(d); m != (api.Meta{}) || e != want {
		t.Fatalf("Load: %v %v, want %v", m, e, want)
	}
}

// P4.1: Right.

func TestRight(t *testing.T) {
	for _, m := range rightMetas() {
		if !meta.Right(m) {
			t.Fatalf("not right: %v", m)
		}
	}
	for _, m := range wrongMetas() {
		if meta.Right(m) {
			t.Errorf("right: %v", m)
		}
	}
}

// Each High there may be, and each page of it at its edges.
func TestRightOfAllHighs(t *testing.T) {
	for high := range uint32(16500) {
		there := high >= 2 && high <= 16384
		for _, id := range []uint32{0, 1, 2, high - 1, high, high + 1} {
			want := there && (id == 0 || id >= 2 && id < high)
			if meta.Right(api.Meta{Tx: 1, High: high, Root: id}) != want {
				t.Fatalf("High %d, Root %d: not %v", high, id, want)
			}
			if meta.Right(api.Meta{Tx: 1, High: high, Free: id}) != want {
				t.Fatalf("High %d, Free %d: not %v", high, id, want)
			}
			if meta.Right(api.Meta{High: high, Root: id, Free: id}) {
				t.Fatalf("High %d, Tx 0: right", high)
			}
		}
	}
}

// P4.1: Encode.

func TestEncodeByHand(t *testing.T) {
	want := "\x01\x02\x03\x04\x05\x06\x07\x08" + "\x00\x00\x12\x34" + "\x00\x00\x3f\xff" + "\x00\x00\x20\x01" +
		strings.Repeat("\x00", 36) + "\x01\x02\x03\x04\x05\x06\x07\x08"
	m := api.Meta{Tx: 0x0102030405060708, Root: 0x1234, High: 0x3fff, Free: 0x2001}
	if s, e := meta.Encode(m); s != want || e != api.OK {
		t.Fatalf("%x %v, want %x", s, e, want)
	}
}

func TestEncode(t *testing.T) {
	for _, m := range rightMetas() {
		if s, e := meta.Encode(m); s != plain(m) || len(s) != api.SectorSize || e != api.OK {
			t.Fatalf("Encode(%v): %x %v, want %x", m, s, e, plain(m))
		}
	}
}

func TestEncodeRefuses(t *testing.T) {
	for _, m := range wrongMetas() {
		if s, e := meta.Encode(m); s != "" || e != api.ErrMeta {
			t.Errorf("Encode(%v): %x %v", m, s, e)
		}
	}
}

// P4.1: Decode.

func TestDecode(t *testing.T) {
	for _, m := range rightMetas() {
		wantDecoded(t, plain(m), m)
	}
}

func TestDecodeRefusesWrongMetas(t *testing.T) {
	for _, m := range wrongMetas() {
		wantNone(t, plain(m))
	}
}

func TestDecodeRefusesWrongSizes(t *testing.T) {
	for _, m := range []api.Meta{
		{Tx: 1, High: 2}, {Tx: 256, High: 16384, Root: 2, Free: 16383}, {Tx: 1 << 56, High: 3}, {Tx: math.MaxUint64, High: 4, Root: 3},
	} {
		s := plain(m)
		wantDecoded(t, s, m)
		for n := range 64 {
			wantNone(t, s[:n])
			wantNone(t, s[64-n:])
		}
		for _, more := range []string{"\x00", "x", strings.Repeat("\x00", 64), s} {
			wantNone(t, s+more)
			wantNone(t, more+s)
		}
		// The bytes 0 between are less, or more, than they should be.
		wantNone(t, s[:20]+s[21:])
		wantNone(t, s[:20]+"\x00"+s[20:])
	}
}

func TestDecodeRefusesBytesBetween(t *testing.T) {
	for _, m := range []api.Meta{{Tx: 1, High: 2}, {Tx: math.MaxUint64, High: 16384, Root: 16383, Free: 2}} {
		s := plain(m)
		wantDecoded(t, s, m)
		for at := 20; at < 56; at++ {
			for c := 1; c < 256; c++ {
				wantNone(t, s[:at]+string([]byte{byte(c)})+s[at+1:])
			}
		}
	}
}

func TestDecodeRefusesTwoTx(t *testing.T) {
	m := api.Meta{Tx: 0x0102030405060708, Root: 5, High: 9, Free: 6}
	s := plain(m)
	wantDecoded(t, s, m)
	for at := range 8 {
		for c := range 256 {
			changed := string([]byte{byte(c)})
			if changed == s[at:at+1] {
				continue
			}
			wantNone(t, s[:at]+changed+s[at+1:])
			wantNone(t, s[:56+at]+changed+s[57+at:])
		}
	}
	for _, tx := range txs() {
		for _, other := range []uint64{0, tx - 2, tx - 1, tx + 1, tx + 2, ^tx, tx << 32, tx >> 32} {
			if other == tx {
				continue
			}
			head, tail := plain(api.Meta{Tx: tx, High: 2}), plain(api.Meta{Tx: other, High: 2})
			wantNone(t, head[:56]+tail[56:])
			wantNone(t, tail[:56]+head[56:])
		}
	}
}

func TestDecodeRefusesOtherBytes(t *testing.T) {
	for _, s := range []string{
		"", strings.Repeat("\x00", 64), strings.Repeat("\xff", 64), strings.Repeat("\x01", 64), strings.Repeat("ab", 32),
	} {
		wantNone(t, s)
	}
}

// P4.2: Store.

func TestStore(t *testing.T) {
	for _, tx := range txs() {
		m := api.Meta{Tx: tx, Root: 3, High: 8, Free: 4}
		d := made(t, 9)
		for i := range 9 {
			lay(t, d, i, strings.Repeat("o", 64))
		}
		d.Sync()
		was, ops, sector := bytesOf(t, d), d.Ops(), int(tx%2)*4
		store(t, d, m)
		if got, want := bytesOf(t, d), was[:sector*64]+plain(m)+was[sector*64+64:]; got != want {
			t.Fatalf("Store(%v): %x", m, got)
		}
		if l := d.Unsynced(); !slices.Equal(l, []int{sector}) || d.Ops() != ops+1 {
			t.Fatalf("Store(%v): unsynced %v, %d operations", m, l, d.Ops()-ops)
		}
		crash(t, d)
		if bytesOf(t, d) != was {
			t.Fatalf("Store(%v) synced", m)
		}
	}
}

func TestStoreRefusesWrongMetas(t *testing.T) {
	for _, sectors := range []int{1, 5, 8} {
		d := made(t, sectors)
		for _, m := range wrongMetas() {
			if e := meta.Store(d, m); e != api.ErrMeta {
				t.Errorf("%d sectors: Store(%v): %v", sectors, m, e)
			}
		}
		if len(d.Unsynced()) != 0 || d.Ops() != 0 || strings.Trim(bytesOf(t, d), "\x00") != "" {
			t.Errorf("%d sectors: written: %v, %d operations", sectors, d.Unsynced(), d.Ops())
		}
	}
}

// A disk that ends ahead of sector 4 has no place for odd ones, but for even ones.
func TestStoreOnSmallDisks(t *testing.T) {
	odd, even := api.Meta{Tx: 3, High: 2}, api.Meta{Tx: 4, High: 2}
	for sectors := 1; sectors <= 5; sectors++ {
		d := made(t, sectors)
		want := api.ErrSector
		if sectors > 4 {
			want = api.OK
		}
		if e := meta.Store(d, odd); e != want {
			t.Errorf("%d sectors: Store of an odd one: %v, want %v", sectors, e, want)
		}
		if want != api.OK && (d.Ops() != 0 || len(d.Unsynced()) != 0) {
			t.Errorf("%d sectors: what was refused is written", sectors)
		}
		store(t, d, even)
		if s, e := d.Read(0); s != plain(even) || e != api.OK {
			t.Errorf("%d sectors: sector 0 is %x", sectors, s)
		}
	}
}

func TestNilDisk(t *testing.T) {
	for _, tx := range txs() {
		m := api.Meta{Tx: tx, High: 2}
		if e := meta.Store(nil, m); e != api.ErrNil {
			t.Errorf("Store(nil, %v): %v", m, e)
		}
	}
	// A meta that is not right is named first.
	for _, m := range wrongMetas() {
		if e := meta.Store(nil, m); e != api.ErrMeta {
			t.Errorf("Store(nil, %v): %v", m, e)
		}
	}
	wantUnloaded(t, nil, api.ErrNil)
}

// P4.2: Load.

func TestLoadOfNone(t *testing.T) {
	d := made(t, 8)
	wantUnloaded(t, d, api.ErrMeta)
	for _, s := range []string{"x", strings.Repeat("\xff", 64), plain(api.Meta{Tx: 2, High: 1}), plain(api.Meta{High: 2})} {
		lay(t, d, 0, s)
		lay(t, d, 4, s)
		wantUnloaded(t, d, api.ErrMeta)
	}
}

func TestLoadOfOneAlone(t *testing.T) {
	for _, tx := range txs() {
		m := api.Meta{Tx: tx, Root: 2, High: 5, Free: 4}
		sector := int(tx%2) * 4
		for _, other := range []string{"", "x", strings.Repeat("\xff", 64), plain(m), plain(m)[:63]} {
			d := made(t, 5)
			lay(t, d, sector, plain(m))
			lay(t, d, 4-sector, other)
			ops := d.Ops()
			wantLoaded(t, d, m)
			if d.Ops() != ops {
				t.Fatal("a load is no write")
			}
		}
	}
}

// A meta that stands in the other one's place does not count, be it the greater one or alone.
func TestLoadOfAnotherPlace(t *testing.T) {
	for _, tx := range txs() {
		m := api.Meta{Tx: tx, High: 2}
		sector := int(tx%2) * 4
		d := made(t, 5)
		lay(t, d, 4-sector, plain(m))
		wantUnloaded(t, d, api.ErrMeta)
		if tx > 2 {
			least := api.Meta{Tx: 2 - tx%2, High: 3}
			lay(t, d, sector, plain(least))
			wantLoaded(t, d, least)
		}
	}
	d := made(t, 5)
	lay(t, d, 0, plain(api.Meta{Tx: 5, High: 2}))
	lay(t, d, 4, plain(api.Meta{Tx: 6, High: 2}))
	wantUnloaded(t, d, api.ErrMeta)
}

// Metas stand in sectors 0 and 4, and in no others.
func TestLoadOfOtherSectors(t *testing.T) {
	d := made(t, 12)
	for i := range 12 {
		if i != 0 && i != 4 {
			lay(t, d, i, plain(api.Meta{Tx: 8, High: 2}))
		}
	}
	wantUnloaded(t, d, api.ErrMeta)
	for i := range 12 {
		if i != 0 && i != 4 {
			lay(t, d, i, plain(api.Meta{Tx: 9, High: 2}))
		}
	}
	wantUnloaded(t, d, api.ErrMeta)
}

func TestLoadOfTheGreater(t *testing.T) {
	for _, a := range txs() {
		for _, b := range txs() {
			if a%2 == b%2 {
				continue
			}
			x, y := api.Meta{Tx: a, Root: 2, High: 3}, api.Meta{Tx: b, High: 7, Free: 5}
			d := made(t, 8)
			store(t, d, x)
			store(t, d, y)
			if a > b {
				wantLoaded(t, d, x)
			} else {
				wantLoaded(t, d, y)
			}
		}
	}
}

// A disk that ends ahead of sector 4 tells so, even where sector 0 holds a meta.
func TestLoadOfSmallDisks(t *testing.T) {
	for sectors := 1; sectors <= 4; sectors++ {
		d := made(t, sectors)
		wantUnloaded(t, d, api.ErrSector)
		store(t, d, api.Meta{Tx: 2, High: 2})
		wantUnloaded(t, d, api.ErrSector)
	}
	d := made(t, 5)
	store(t, d, api.Meta{Tx: 2, High: 2})
	wantLoaded(t, d, api.Meta{Tx: 2, High: 2})
}

// P4.3.

func TestMetasAndBytesAreOneToOne(t *testing.T) {
	seen := map[string]api.Meta{}
	for _, m := range rightMetas() {
		s, e := meta.Encode(m)
		if e != api.OK {
			t.Fatalf("Encode(%v): %v", m, e)
		}
		wantDecoded(t, s, m)
		if n, ok := seen[s]; ok && n != m {
			t.Fatalf("%v and %v have the same bytes", m, n)
		}
		seen[s] = m
	}
}

// next is the meta of a transaction in a row of them, each with other pages.
func next(tx uint64) api.Meta {
	high := 2 + uint32(tx*977%16383)
	m := api.Meta{Tx: tx, High: high}
	if tx%3 != 0 {
		m.Root = high - 1
	}
	if tx%5 != 0 {
		m.Free = (high + 2) / 2
	}
	// Of few pages Root or Free may be none.
	if m.Root == 1 {
		m.Root = 0
	}
	if m.Free >= high {
		m.Free = 0
	}
	return m
}

func TestWhatIsStoredBehindOthersIsLoaded(t *testing.T) {
	for _, from := range []uint64{1, 2, 200, 1 << 32, 1 << 63, math.MaxUint64 - 999} {
		from -= min(from-1, 300)
		d := made(t, 8)
		for i := range uint64(1000) {
			store(t, d, next(from+i))
			wantLoaded(t, d, next(from+i))
			if i%3 == 0 {
				d.Sync()
				crash(t, d)
				wantLoaded(t, d, next(from+i))
			}
		}
	}
}

// wantTorn stores what is ahead and synced, then m, of which so many bytes are kept: m is loaded, or what was last ahead.
func wantTorn(t *testing.T, ahead []api.Meta, m api.Meta) {
	t.Helper()
	d := made(t, 8)
	for _, x := range ahead {
		store(t, d, x)
	}
	d.Sync()
	last := ahead[len(ahead)-1]
	was, e := d.Read(int(m.Tx%2) * 4)
	if e != api.OK {
		t.Fatal(e)
	}
	for n := range 65 {
		// As it was ahead of the store before.
		lay(t, d, int(m.Tx%2)*4, was)
		d.Sync()
		store(t, d, m)
		wantLoaded(t, d, m)
		crash(t, d, n)
		want := last
		if torn := plain(m)[:n] + was[n:]; torn == plain(m) {
			want = m
		}
		wantLoaded(t, d, want)
	}
}

func TestATornStore(t *testing.T) {
	for _, tx := range txs() {
		if tx < 2 {
			continue
		}
		wantTorn(t, []api.Meta{next(tx - 1)}, next(tx))
		// All alike but for Tx.
		wantTorn(t, []api.Meta{{Tx: tx - 1, High: 2}}, api.Meta{Tx: tx, High: 2})
		if tx < 3 {
			continue
		}
		wantTorn(t, []api.Meta{next(tx - 2), next(tx - 1)}, next(tx))
		wantTorn(t, []api.Meta{{Tx: tx - 2, High: 2}, {Tx: tx - 1, High: 2}}, api.Meta{Tx: tx, High: 2})
	}
	for tx := uint64(3); tx < 1200; tx++ {
		wantTorn(t, []api.Meta{next(tx - 2), next(tx - 1)}, next(tx))
	}
}

// The first store of all, torn: it is loaded, or none is.
func TestATornFirstStore(t *testing.T) {
	for _, tx := range txs() {
		m := next(tx)
		for n := range 65 {
			d := made(t, 8)
			store(t, d, m)
			crash(t, d, n)
			if plain(m)[:n]+strings.Repeat("\x00", 64-n) == plain(m) {
				wantLoaded(t, d, m)
			} else {
				wantUnloaded(t, d, api.ErrMeta)
			}
		}
	}
}
