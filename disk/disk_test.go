package disk_test

import (
	"math"
	"slices"
	"strings"
	"testing"

	"bazaar/api"
	"bazaar/disk"
)

// full is a sector's bytes that begin with s.
func full(s string) string {
	return s + strings.Repeat("\x00", api.SectorSize-len(s))
}

// made is a new disk.
func made(t *testing.T, sectors int) *disk.Disk {
	t.Helper()
	d, e := disk.New(sectors)
	if d == nil || e != api.OK {
		t.Fatalf("New(%d): %v %v", sectors, d, e)
	}
	return d
}

// write writes a sector, and must not be refused.
func write(t *testing.T, d *disk.Disk, sector int, s string) {
	t.Helper()
	if e := d.Write(sector, s); e != api.OK {
		t.Fatalf("Write(%d, %q): %v", sector, s, e)
	}
}

// sync syncs, and must not be refused.
func sync(t *testing.T, d *disk.Disk) {
	t.Helper()
	if e := d.Sync(); e != api.OK {
		t.Fatalf("Sync: %v", e)
	}
}

// crash crashes, and must not be refused.
func crash(t *testing.T, d *disk.Disk, keep ...int) {
	t.Helper()
	if e := d.Crash(keep); e != api.OK {
		t.Fatalf("Crash(%v): %v", keep, e)
	}
}

// wantRead checks what is read of a sector.
func wantRead(t *testing.T, d *disk.Disk, sector int, want string) {
	t.Helper()
	if s, e := d.Read(sector); s != want || e != api.OK {
		t.Fatalf("Read(%d): %q %v, want %q", sector, s, e, want)
	}
}

// wantUnsynced checks the sectors of the unsynced writes.
func wantUnsynced(t *testing.T, d *disk.Disk, want ...int) {
	t.Helper()
	if l := d.Unsynced(); !slices.Equal(l, want) {
		t.Fatalf("Unsynced: %v, want %v", l, want)
	}
}

// wantOps checks how many writes and syncs there were.
func wantOps(t *testing.T, d *disk.Disk, want int) {
	t.Helper()
	if n := d.Ops(); n != want {
		t.Fatalf("Ops: %d, want %d", n, want)
	}
}

// P1.1: New.

func TestNew(t *testing.T) {
	for _, n := range []int{1, 2, 3, 1000, 65535, 65536} {
		d := made(t, n)
		if d.Sectors() != n {
			t.Fatalf("Sectors: %d, want %d", d.Sectors(), n)
		}
		for i := range n {
			wantRead(t, d, i, full(""))
		}
		wantUnsynced(t, d)
		wantOps(t, d, 0)
		if e := d.Write(n, ""); e != api.ErrSector {
			t.Fatalf("Write(%d) of %d sectors: %v", n, n, e)
		}
		write(t, d, n-1, "last")
		wantRead(t, d, n-1, full("last"))
	}
}

func TestNewRefuses(t *testing.T) {
	for _, n := range []int{math.MinInt, -65536, -1, 0, 65537, 1 << 32, math.MaxInt} {
		if d, e := disk.New(n); d != nil || e != api.ErrArg {
			t.Errorf("New(%d): %v %v", n, d, e)
		}
	}
}

func TestDisksAreApart(t *testing.T) {
	a, b := made(t, 2), made(t, 2)
	write(t, a, 0, "a")
	sync(t, a)
	write(t, a, 1, "b")
	wantRead(t, b, 0, full(""))
	wantRead(t, b, 1, full(""))
	wantUnsynced(t, b)
	wantOps(t, b, 0)
}

// P1.1: Write, Read and Sync.

func TestWriteIsReadWithNoughtsBehind(t *testing.T) {
	bytes := strings.Repeat("0123456789abcdef", 4)
	for n := 0; n <= api.SectorSize; n++ {
		d := made(t, 3)
		for i := range 3 {
			write(t, d, i, strings.Repeat("\xff", api.SectorSize))
		}
		write(t, d, 1, bytes[:n])
		wantRead(t, d, 0, strings.Repeat("\xff", api.SectorSize))
		wantRead(t, d, 1, full(bytes[:n]))
		wantRead(t, d, 2, strings.Repeat("\xff", api.SectorSize))
		sync(t, d)
		wantRead(t, d, 1, full(bytes[:n]))
	}
}

func TestAnyBytesAreWritten(t *testing.T) {
	d := made(t, 4)
	for i := range 4 {
		var b []byte
		for c := range api.SectorSize {
			b = append(b, byte(i*api.SectorSize+c))
		}
		write(t, d, i, string(b))
		wantRead(t, d, i, string(b))
	}
}

func TestWriteRefuses(t *testing.T) {
	long := strings.Repeat("x", 65)
	for _, c := range []struct {
		sector int
		s      string
		want   api.Errno
	}{
		{-1, "", api.ErrSector},
		{3, "", api.ErrSector},
		{4, "x", api.ErrSector},
		{65536, "x", api.ErrSector},
		{math.MinInt, "x", api.ErrSector},
		{math.MaxInt, "x", api.ErrSector},
		{-1, long, api.ErrSector},
		{3, long, api.ErrSector},
		{0, long, api.ErrArg},
		{2, long, api.ErrArg},
		{2, strings.Repeat("x", 1<<20), api.ErrArg},
	} {
		d := made(t, 3)
		write(t, d, 0, "a")
		sync(t, d)
		write(t, d, 2, "b")
		if e := d.Write(c.sector, c.s); e != c.want {
			t.Errorf("Write(%d, %d bytes): %v, want %v", c.sector, len(c.s), e, c.want)
		}
		wantRead(t, d, 0, full("a"))
		wantRead(t, d, 1, full(""))
		wantRead(t, d, 2, full("b"))
		wantUnsynced(t, d, 2)
		wantOps(t, d, 3)
		crash(t, d)
		wantRead(t, d, 0, full("a"))
		wantRead(t, d, 2, full(""))
	}
}

func TestReadRefuses(t *testing.T) {
	d := made(t, 3)
	for _, sector := range []int{math.MinInt, -1, 3, 4, 65536, math.MaxInt} {
		if s, e := d.Read(sector); s != "" || e != api.ErrSector {
			t.Errorf("Read(%d): %q %v", sector, s, e)
		}
	}
}

func TestJustASyncKeeps(t *testing.T) {
	d := made(t, 2)
	write(t, d, 0, "kept")
	write(t, d, 1, "first")
	write(t, d, 1, "then")
	sync(t, d)
	wantUnsynced(t, d)
	write(t, d, 0, "lost")
	wantRead(t, d, 0, full("lost"))
	crash(t, d)
	wantRead(t, d, 0, full("kept"))
	wantRead(t, d, 1, full("then"))
}

func TestNilDisk(t *testing.T) {
	var d *disk.Disk
	if e := d.Write(-1, strings.Repeat("x", 65)); e != api.ErrNil {
		t.Error("Write", e)
	}
	if s, e := d.Read(-1); s != "" || e != api.ErrNil {
		t.Error("Read", s, e)
	}
	if e := d.Sync(); e != api.ErrNil {
		t.Error("Sync", e)
	}
	if e := d.Crash([]int{-1}); e != api.ErrNil {
		t.Error("Crash", e)
	}
	if len(d.Unsynced()) != 0 || d.Sectors() != 0 || d.Ops() != 0 {
		t.Error(d.Unsynced(), d.Sectors(), d.Ops())
	}
}

// P1.2: Crash.

func TestCrashKeepsTheFirstBytes(t *testing.T) {
	was := strings.Repeat("o", api.SectorSize)
	bytes := strings.Repeat("n", 40)
	for n := 0; n <= api.SectorSize; n++ {
		d := made(t, 2)
		write(t, d, 0, was)
		write(t, d, 1, was)
		sync(t, d)
		write(t, d, 1, bytes)
		crash(t, d, n)
		wantRead(t, d, 0, was)
		wantRead(t, d, 1, full(bytes)[:n]+was[n:])
		wantUnsynced(t, d)
		// What the crash left is what is kept: another one changes nothing.
		crash(t, d)
		wantRead(t, d, 1, full(bytes)[:n]+was[n:])
	}
}

func TestCrashOfTheExample(t *testing.T) {
	d := made(t, 1)
	write(t, d, 0, "ab")
	sync(t, d)
	write(t, d, 0, "xyz")
	crash(t, d, 1)
	wantRead(t, d, 0, full("xb"))
}

func TestCrashKeepsInOrder(t *testing.T) {
	for _, c := range []struct {
		keep []int
		want string
	}{
		{nil, "oooooo"},
		{[]int{}, "oooooo"},
		{[]int{4}, "aaaaoo"},
		{[]int{0, 3}, "bbbooo"},
		{[]int{4, 3}, "bbbaoo"},
		{[]int{3, 4}, "bbbboo"},
		{[]int{4, 3, 2}, "ccbaoo"},
		{[]int{2, 3, 4}, "ccccoo"},
		{[]int{4, 0, 1}, "caaaoo"},
		{[]int{0, 0, 0}, "oooooo"},
		{[]int{64, 64, 1}, "cbbbb\x00"},
	} {
		d := made(t, 3)
		write(t, d, 1, "oooooo")
		sync(t, d)
		write(t, d, 1, "aaaaa")
		write(t, d, 1, "bbbbb")
		write(t, d, 1, "ccccc")
		if e := d.Crash(c.keep); e != api.OK {
			t.Fatal(c.keep, e)
		}
		wantRead(t, d, 0, full(""))
		wantRead(t, d, 1, full(c.want))
		wantRead(t, d, 2, full(""))
	}
}

func TestCrashOfSeveralSectors(t *testing.T) {
	d := made(t, 4)
	write(t, d, 3, "three")
	write(t, d, 0, "nought")
	write(t, d, 3, "THREE")
	write(t, d, 2, "two")
	crash(t, d, 64, 2, 1)
	wantRead(t, d, 0, full("no"))
	wantRead(t, d, 1, full(""))
	wantRead(t, d, 2, full(""))
	wantRead(t, d, 3, full("Three"))
}

func TestCrashRefuses(t *testing.T) {
	for _, keep := range [][]int{
		{1, 1, 1},
		{0, 0, 0},
		{1, 1, 1, 1},
		{1, 1, 65},
		{-1},
		{65},
		{1, -1},
		{1, 65},
		{-1, 1},
		{math.MinInt, 64},
		{64, math.MaxInt},
		make([]int, 1000),
	} {
		d := made(t, 2)
		write(t, d, 0, "old")
		sync(t, d)
		write(t, d, 0, "new")
		write(t, d, 1, "more")
		if e := d.Crash(keep); e != api.ErrArg {
			t.Errorf("Crash(%v): %v", keep, e)
		}
		wantRead(t, d, 0, full("new"))
		wantRead(t, d, 1, full("more"))
		wantUnsynced(t, d, 0, 1)
		wantOps(t, d, 4)
		crash(t, d)
		wantRead(t, d, 0, full("old"))
		wantRead(t, d, 1, full(""))
	}
}

func TestCrashWhereNothingIsUnsynced(t *testing.T) {
	d := made(t, 1)
	crash(t, d)
	if e := d.Crash([]int{0}); e != api.ErrArg {
		t.Error(e)
	}
	write(t, d, 0, "a")
	sync(t, d)
	if e := d.Crash([]int{0}); e != api.ErrArg {
		t.Error(e)
	}
	crash(t, d)
	wantRead(t, d, 0, full("a"))
	wantOps(t, d, 2)
}

func TestCrashLeavesItsListAlone(t *testing.T) {
	d := made(t, 2)
	write(t, d, 0, "abc")
	write(t, d, 1, "def")
	room := []int{2, 1, 7, 8}
	crash(t, d, room[:2:4]...)
	if !slices.Equal(room, []int{2, 1, 7, 8}) {
		t.Error(room)
	}
	room[0], room[1] = 64, 64
	wantRead(t, d, 0, full("ab"))
	wantRead(t, d, 1, full("d"))
}

// P1.2: Unsynced, Sectors and Ops.

func TestUnsynced(t *testing.T) {
	d := made(t, 5)
	want := []int{4, 0, 4, 4, 2, 0}
	for i, sector := range want {
		wantUnsynced(t, d, want[:i]...)
		write(t, d, sector, "x")
	}
	wantUnsynced(t, d, want...)
	sync(t, d)
	wantUnsynced(t, d)
	write(t, d, 3, "")
	wantUnsynced(t, d, 3)
	crash(t, d)
	wantUnsynced(t, d)
}

func TestUnsyncedIsNewMemory(t *testing.T) {
	d := made(t, 5)
	for i := range 5 {
		write(t, d, i, "x")
	}
	l := d.Unsynced()
	other := d.Unsynced()
	for i := range l[:cap(l)] {
		l[:cap(l)][i] = 9
	}
	wantUnsynced(t, d, 0, 1, 2, 3, 4)
	if !slices.Equal(other, []int{0, 1, 2, 3, 4}) {
		t.Error(other)
	}
	write(t, d, 0, "y")
	if len(l) != 5 || l[4] != 9 {
		t.Error(l)
	}
}

func TestOps(t *testing.T) {
	d := made(t, 2)
	sync(t, d)
	wantOps(t, d, 1)
	write(t, d, 0, "a")
	write(t, d, 0, "a")
	wantOps(t, d, 3)
	crash(t, d, 64)
	wantOps(t, d, 3)
	sync(t, d)
	sync(t, d)
	wantOps(t, d, 5)
	d.Read(0)
	d.Read(9)
	d.Unsynced()
	d.Write(9, "")
	d.Crash([]int{1})
	wantOps(t, d, 5)
	if d.Sectors() != 2 {
		t.Error(d.Sectors())
	}
}

// P1.3.

func TestWhatWasSyncedIsReadBehindAnyCrash(t *testing.T) {
	for n := 0; n <= api.SectorSize; n++ {
		d := made(t, 3)
		for i := range 3 {
			write(t, d, i, strings.Repeat("s", 10+i))
		}
		sync(t, d)
		write(t, d, 1, strings.Repeat("u", 30))
		crash(t, d, n)
		wantRead(t, d, 0, full(strings.Repeat("s", 10)))
		wantRead(t, d, 2, full(strings.Repeat("s", 12)))
	}
}

func TestCrashThatKeepsAllIsASync(t *testing.T) {
	a, b := made(t, 4), made(t, 4)
	for i, sector := range []int{0, 3, 0, 2, 3, 3, 1} {
		s := strings.Repeat(string(rune('a'+i)), i*9)
		write(t, a, sector, s)
		write(t, b, sector, s)
	}
	crash(t, a, slices.Repeat([]int{api.SectorSize}, 7)...)
	sync(t, b)
	for _, d := range []*disk.Disk{a, b} {
		wantUnsynced(t, d)
		crash(t, d)
	}
	for i := range 4 {
		s, _ := b.Read(i)
		wantRead(t, a, i, s)
	}
}

// plain is a disk as the chapter tells it, with nothing made fast.
type plain struct {
	kept     []string
	unsynced []int
	bytes    []string
}

func (p *plain) read(sector int) string {
	for i := len(p.unsynced) - 1; i >= 0; i-- {
		if p.unsynced[i] == sector {
			return p.bytes[i]
		}
	}
	return p.kept[sector]
}

func (p *plain) crash(keep []int) {
	for i, n := range keep {
		at := p.unsynced[i]
		p.kept[at] = p.bytes[i][:n] + p.kept[at][n:]
	}
	p.unsynced, p.bytes = nil, nil
}

func TestManySteps(t *testing.T) {
	const sectors = 6
	d, p := made(t, sectors), plain{kept: slices.Repeat([]string{full("")}, sectors)}
	x := uint32(1)
	below := func(n int) int { // the next number of a fixed row of them
		x = x*1664525 + 1013904223
		return int(x>>8) % n
	}
	for step := range 20000 {
		switch below(10) {
		case 0:
			sync(t, d)
			p.crash(slices.Repeat([]int{api.SectorSize}, len(p.unsynced)))
		case 1:
			var keep []int
			for range below(len(p.unsynced) + 1) {
				keep = append(keep, below(api.SectorSize+1))
			}
			crash(t, d, keep...)
			p.crash(keep)
		default:
			at, s := below(sectors), strings.Repeat(string(rune('a'+step%26)), below(api.SectorSize+1))
			write(t, d, at, s)
			p.unsynced, p.bytes = append(p.unsynced, at), append(p.bytes, full(s))
		}
		for i := range sectors {
			wantRead(t, d, i, p.read(i))
		}
		wantUnsynced(t, d, p.unsynced...)
	}
}

func TestManyUnsyncedWrites(t *testing.T) {
	const writes = 200000
	d := made(t, api.MaxSectors)
	for i := range writes {
		write(t, d, i%api.MaxSectors, string(rune('a'+i%26)))
		if s, _ := d.Read(i % api.MaxSectors); s[0] != byte('a'+i%26) {
			t.Fatal(i, s)
		}
	}
	if e := d.Crash(make([]int, writes+1)); e != api.ErrArg {
		t.Fatal(e)
	}
	keep := slices.Repeat([]int{1}, writes)
	if e := d.Crash(keep); e != api.OK {
		t.Fatal(e)
	}
	last := (writes - 1) % api.MaxSectors
	wantRead(t, d, last, full(string(rune('a'+(writes-1)%26))))
}
