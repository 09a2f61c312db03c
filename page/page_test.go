package page_test

import (
	"encoding/binary"
	"fmt"
	"hash/adler32"
	"math"
	"slices"
	"strings"
	"testing"

	"bazaar/api"
	"bazaar/disk"
	"bazaar/page"
)

// row is n bytes of a fixed row of them.
func row(n int) string {
	bytes, x := make([]byte, n), uint32(11)
	for i := range bytes {
		x = x*1664525 + 1013904223
		bytes[i] = byte(x >> 24)
	}
	return string(bytes)
}

// named is a page in a failing test's words.
func named(p api.Page) string {
	return fmt.Sprintf("{%d %d %d %x}", p.Kind, p.Id, p.Tx, p.Body)
}

// plain is a page's bytes as the chapter tells them, by the library's means, be the page right or not.
func plain(p api.Page) string {
	b := []byte{byte(p.Kind)}
	b = binary.BigEndian.AppendUint32(b, p.Id)
	b = binary.BigEndian.AppendUint64(b, p.Tx)
	b = binary.BigEndian.AppendUint16(b, uint16(len(p.Body)))
	b = append(b, p.Body...)
	return filled(string(b))
}

// filled is these bytes, sealed, and bytes 0 up to a page's size.
func filled(s string) string {
	b := binary.BigEndian.AppendUint32([]byte(s), adler32.Checksum([]byte(s)))
	for len(b) < 256 {
		b = append(b, 0)
	}
	return string(b)
}

// rightPages is pages that are right, those at the edges among them.
func rightPages() []api.Page {
	all := []api.Page{
		{Kind: api.PageLeaf, Id: 2, Tx: 1},
		{Kind: api.PageFree, Id: 16383, Tx: math.MaxUint64, Body: strings.Repeat("\xff", 237)},
		{Kind: api.PageBranch, Id: 0x0102, Tx: 0x0102030405060708, Body: "\x00"},
	}
	for _, kind := range []int{1, 2, 3} {
		for _, id := range []uint32{2, 3, 255, 256, 257, 258, 16382, 16383} {
			for _, tx := range []uint64{1, 2, 255, 256, 1 << 32, 1 << 63, math.MaxUint64} {
				for _, n := range []int{0, 1, 2, 100, 236, 237} {
					all = append(all, api.Page{Kind: kind, Id: id, Tx: tx, Body: row(n)})
				}
			}
		}
	}
	return all
}

// wrongPages is pages that are not right.
func wrongPages() []api.Page {
	ok := api.Page{Kind: api.PageBranch, Id: 5, Tx: 7, Body: "ab"}
	all := []api.Page{{}, {Kind: 4, Id: 1, Tx: 0, Body: row(238)}}
	for _, kind := range []int{math.MinInt, -255, -2, -1, 0, 4, 5, 255, 256, 257, 258, 259, 1<<32 + 1, math.MaxInt} {
		p := ok
		p.Kind = kind
		all = append(all, p)
	}
	for _, id := range []uint32{0, 1, 16384, 16385, 65536, 65538, 1 << 30, 1<<30 + 2, math.MaxUint32} {
		p := ok
		p.Id = id
		all = append(all, p)
	}
	none := ok
	none.Tx = 0
	all = append(all, none)
	for _, n := range []int{238, 239, 241, 256, 493, 65536, 65538} {
		p := ok
		p.Body = row(n)
		all = append(all, p)
	}
	return all
}

// made is a new disk.
func made(t *testing.T, sectors int) *disk.Disk {
	t.Helper()
	d, e := disk.New(sectors)
	if d == nil || e != api.OK {
		t.Fatalf("New(%d): %v %v", sectors, d, e)
	}
	return d
}

// write writes a page, and must not be refused.
func write(t *testing.T, d *disk.Disk, p api.Page) {
	t.Helper()
	if e := page.Write(d, p); e != api.OK {
		t.Fatalf("Write(%s): %v", named(p), e)
	}
}

// lay writes bytes into sectors, from one on, by the disk alone.
func lay(t *testing.T, d *disk.Disk, sector int, s string) {
	t.Helper()
	for ; s != ""; sector++ {
		n := min(len(s), api.SectorSize)
		if e := d.Write(sector, s[:n]); e != api.OK {
			t.Fatalf("Write(%d): %v", sector, e)
		}
		s = s[n:]
	}
}

// bytesOf is all that is read of a disk.
func bytesOf(t *testing.T, d *disk.Disk) string {
	t.Helper()
	var all strings.Builder
	for i := range d.Sectors() {
		s, e := d.Read(i)
		if e != api.OK {
			t.Fatalf("Read(%d): %v", i, e)
		}
		all.WriteString(s)
	}
	return all.String()
}

// wantDecoded checks that bytes are a page's.
func wantDecoded(t *testing.T, s string, want api.Page) {
	t.Helper()
	if p, e := page.Decode(s); p != want || e != api.OK {
		t.Fatalf("Decode(%x): %s %v, want %s", s, named(p), e, named(want))
	}
}

// wantNone checks that bytes are no page's.
func wantNone(t *testing.T, s string) {
	t.Helper()
	if p, e := page.Decode(s); p != (api.Page{}) || e != api.ErrPage {
		t.Fatalf("Decode(%x): %s %v", s, named(p), e)
	}
}

// wantRead checks what page is read.
func wantRead(t *testing.T, d *disk.Disk, id uint32, want api.Page) {
	t.Helper()
	if p, e := page.Read(d, id); p != want || e != api.OK {
		t.Fatalf("Read(%d): %s %v, want %s", id, named(p), e, named(want))
	}
}

// wantUnread checks that no page is read, and which error is told.
func wantUnread(t *testing.T, d *disk.Disk, id uint32, want api.Errno) {
	t.Helper()
	if p, e := page.Read(d, id); p != (api.Page{}) || e != want {
		t.Fatalf("Read(%d): %s %v, want %v", id, named(p), e, want)
	}
}

// P3.1: Right.

func TestRight(t *testing.T) {
	for _, p := range rightPages() {
		if !page.Right(p) {
			t.Fatalf("not right: %s", named(p))
		}
	}
	for _, p := range wrongPages() {
		if page.Right(p) {
			t.Errorf("right: %s", named(p))
		}
	}
}

// P3.1: Encode.

func TestEncodeOfTheExample(t *testing.T) {
	head := "\x01\x00\x00\x00\x02\x00\x00\x00\x00\x00\x00\x00\x01\x00\x00"
	// Behind each of the first 4 bytes a is 2, behind each of 8 more 4, behind the last 3 it is 5: b is 55 in all.
	want := head + "\x00\x37\x00\x05" + strings.Repeat("\x00", 237)
	s, e := page.Encode(api.Page{Kind: api.PageLeaf, Id: 2, Tx: 1})
	if s != want || e != api.OK {
		t.Fatalf("%x %v, want %x", s, e, want)
	}
}

func TestEncode(t *testing.T) {
	for _, p := range rightPages() {
		if s, e := page.Encode(p); s != plain(p) || len(s) != api.PageSize || e != api.OK {
			t.Fatalf("Encode(%s): %x %v, want %x", named(p), s, e, plain(p))
		}
	}
}

func TestEncodeRefuses(t *testing.T) {
	for _, p := range wrongPages() {
		if s, e := page.Encode(p); s != "" || e != api.ErrPage {
			t.Errorf("Encode(%s): %x %v", named(p), s, e)
		}
	}
}

// P3.1: Decode.

func TestDecode(t *testing.T) {
	for _, p := range rightPages() {
		wantDecoded(t, plain(p), p)
	}
}

func TestDecodeRefusesWrongSizes(t *testing.T) {
	for _, p := range []api.Page{
		{Kind: api.PageLeaf, Id: 2, Tx: 1},
		{Kind: api.PageLeaf, Id: 2, Tx: 1, Body: row(236)},
		{Kind: api.PageFree, Id: 3, Tx: 1, Body: row(237)},
	} {
		s := plain(p)
		wantDecoded(t, s, p)
		for n := range 256 {
			wantNone(t, s[:n])
		}
		for _, more := range []string{"\x00", "x", row(3), strings.Repeat("\x00", 256), s} {
			wantNone(t, s+more)
			wantNone(t, more+s)
		}
		wantNone(t, s[1:]+"\x00")
		wantNone(t, "\x00"+s[:255])
	}
}

func TestDecodeRefusesBytesBehindTheSealedOnes(t *testing.T) {
	for _, n := range []int{0, 1, 100, 235, 236} {
		p := api.Page{Kind: api.PageBranch, Id: 9, Tx: 4, Body: row(n)}
		s := plain(p)
		wantDecoded(t, s, p)
		for at := 15 + n + 4; at < 256; at++ {
			for _, c := range []string{"\x01", "\x80", "\xff"} {
				wantNone(t, s[:at]+c+s[at+1:])
			}
		}
	}
}

func TestDecodeRefusesOtherBytes(t *testing.T) {
	for _, s := range []string{
		strings.Repeat("\x00", 256), strings.Repeat("\xff", 256), strings.Repeat("\x01", 256),
		row(256), filled(""), filled("\x01"), filled(row(252)),
	} {
		wantNone(t, s)
	}
}

// What is sealed well is no page all the same, if the page is not right.
func TestDecodeRefusesWrongPages(t *testing.T) {
	ok := api.Page{Kind: api.PageBranch, Id: 5, Tx: 7, Body: "ab"}
	wantDecoded(t, plain(ok), ok)
	for _, kind := range []int{0, 4, 5, 128, 255} {
		p := ok
		p.Kind = kind
		wantNone(t, plain(p))
	}
	for _, id := range []uint32{0, 1, 16384, 16385, 65538, 1 << 30, math.MaxUint32} {
		p := ok
		p.Id = id
		wantNone(t, plain(p))
	}
	p := ok
	p.Tx = 0
	wantNone(t, plain(p))
}

// Bytes are told to be as many as they are not, and all that is sealed.
func TestDecodeRefusesWrongLengths(t *testing.T) {
	head := plain(api.Page{Kind: api.PageLeaf, Id: 2, Tx: 1})[:13]
	body := row(237)
	for n := range 65536 {
		told := head + string([]byte{byte(n >> 8), byte(n)})
		for _, has := range []int{0, 3, 200, 237} {
			if n == has {
				wantDecoded(t, filled(told+body[:has]), api.Page{Kind: api.PageLeaf, Id: 2, Tx: 1, Body: body[:has]})
			} else {
				wantNone(t, filled(told+body[:has]))
			}
		}
	}
}

// P3.2: Write.

func TestWrite(t *testing.T) {
	for _, p := range []api.Page{
		{Kind: api.PageLeaf, Id: 2, Tx: 1},
		{Kind: api.PageBranch, Id: 3, Tx: 9, Body: row(237)},
		{Kind: api.PageFree, Id: 5, Tx: math.MaxUint64, Body: row(120)},
	} {
		d := made(t, 24)
		for i := range 24 {
			lay(t, d, i, strings.Repeat("o", 64))
		}
		d.Sync()
		ops, was, at := d.Ops(), bytesOf(t, d), int(p.Id)*256
		write(t, d, p)
		if got, want := bytesOf(t, d), was[:at]+plain(p)+was[at+256:]; got != want {
			t.Fatalf("Write(%s): %x", named(p), got)
		}
		first := int(p.Id) * 4
		if l := d.Unsynced(); !slices.Equal(l, []int{first, first + 1, first + 2, first + 3}) || d.Ops() != ops+4 {
			t.Fatalf("Write(%s): unsynced %v, %d operations", named(p), l, d.Ops()-ops)
		}
		d.Crash(nil)
		if bytesOf(t, d) != was {
			t.Fatalf("Write(%s) synced", named(p))
		}
	}
}

func TestWriteAtTheLastPlace(t *testing.T) {
	d := made(t, api.MaxSectors)
	p := api.Page{Kind: api.PageLeaf, Id: 16383, Tx: 3, Body: row(237)}
	write(t, d, p)
	if l := d.Unsynced(); !slices.Equal(l, []int{65532, 65533, 65534, 65535}) {
		t.Fatal(l)
	}
	wantRead(t, d, 16383, p)
}

func TestWriteRefusesWrongPages(t *testing.T) {
	d := made(t, api.MaxSectors)
	for _, p := range wrongPages() {
		if e := page.Write(d, p); e != api.ErrPage {
			t.Errorf("Write(%s): %v", named(p), e)
		}
	}
	small := made(t, 1)
	for _, p := range wrongPages() {
		if e := page.Write(small, p); e != api.ErrPage {
			t.Errorf("Write(%s) on a small disk: %v", named(p), e)
		}
	}
	for _, d := range []*disk.Disk{d, small} {
		if len(d.Unsynced()) != 0 || d.Ops() != 0 || strings.Trim(bytesOf(t, d), "\x00") != "" {
			t.Errorf("written: %v, %d operations", d.Unsynced(), d.Ops())
		}
	}
}

func TestWriteUpToTheEnd(t *testing.T) {
	p := api.Page{Kind: api.PageBranch, Id: 4, Tx: 6, Body: row(237)}
	for sectors := 1; sectors < 24; sectors++ {
		d := made(t, sectors)
		e := page.Write(d, p)
		n := max(0, min(4, sectors-16)) // how many of its sectors there are
		want := api.OK
		if n < 4 {
			want = api.ErrSector
		}
		if e != want || !slices.Equal(d.Unsynced(), []int{16, 17, 18, 19}[:n]) || d.Ops() != n {
			t.Fatalf("%d sectors: %v, unsynced %v", sectors, e, d.Unsynced())
		}
		for i := range n {
			if s, e := d.Read(16 + i); s != plain(p)[i*64:i*64+64] || e != api.OK {
				t.Fatalf("%d sectors: sector %d is %x", sectors, 16+i, s)
			}
		}
	}
}

func TestNilDisk(t *testing.T) {
	for _, p := range rightPages()[:3] {
		if e := page.Write(nil, p); e != api.ErrNil {
			t.Errorf("Write(nil, %s): %v", named(p), e)
		}
	}
	// A page that is not right is named first.
	for _, p := range wrongPages() {
		if e := page.Write(nil, p); e != api.ErrPage {
			t.Errorf("Write(nil, %s): %v", named(p), e)
		}
	}
	for _, id := range []uint32{0, 1, 2, 16383, 16384, 1 << 30, math.MaxUint32} {
		wantUnread(t, nil, id, api.ErrNil)
	}
}

// P3.2: Read.

func TestReadOfBytes(t *testing.T) {
	d := made(t, 64)
	p := api.Page{Kind: api.PageFree, Id: 15, Tx: 8, Body: row(77)}
	lay(t, d, 60, plain(p))
	ops, unsynced := d.Ops(), len(d.Unsynced())
	wantRead(t, d, 15, p)
	wantUnread(t, d, 14, api.ErrPage)
	wantUnread(t, d, 16, api.ErrSector)
	if d.Ops() != ops || len(d.Unsynced()) != unsynced {
		t.Error("a read is no write")
	}
}

func TestReadPastTheEnd(t *testing.T) {
	p := api.Page{Kind: api.PageLeaf, Id: 4, Tx: 6, Body: "short"}
	for sectors := 1; sectors < 24; sectors++ {
		d := made(t, sectors)
		page.Write(d, p)
		if sectors < 20 {
			wantUnread(t, d, 4, api.ErrSector)
		} else {
			wantRead(t, d, 4, p)
		}
	}
	d := made(t, api.MaxSectors)
	// The page 2 stands where ids past the end would come round to.
	write(t, d, api.Page{Kind: api.PageLeaf, Id: 2, Tx: 1})
	for _, id := range []uint32{16384, 16385, 16386, 65536, 1 << 30, 1<<30 + 2, 1<<31 + 2, 3<<30 + 2, math.MaxUint32} {
		wantUnread(t, d, id, api.ErrSector)
	}
	wantUnread(t, d, 16383, api.ErrPage)
}

func TestReadOfAnotherPage(t *testing.T) {
	p := api.Page{Kind: api.PageBranch, Id: 3, Tx: 2, Body: "ab"}
	d := made(t, 32)
	for id := range uint32(8) {
		lay(t, d, int(id)*4, plain(p))
	}
	for id := range uint32(8) {
		if id == 3 {
			wantRead(t, d, id, p)
		} else {
			wantUnread(t, d, id, api.ErrPage)
		}
	}
}

// There are no pages 0 and 1, even where their bytes would be sealed well.
func TestReadOfPlacesAheadOfTheFirst(t *testing.T) {
	d := made(t, 16)
	for id := range uint32(2) {
		wantUnread(t, d, id, api.ErrPage)
		lay(t, d, int(id)*4, plain(api.Page{Kind: api.PageLeaf, Id: id, Tx: 1, Body: "a"}))
		wantUnread(t, d, id, api.ErrPage)
	}
}

func TestReadOfAnEmptyDisk(t *testing.T) {
	d := made(t, 16)
	for id := range uint32(4) {
		wantUnread(t, d, id, api.ErrPage)
	}
	wantUnread(t, d, 4, api.ErrSector)
}

// P3.3.

func TestPagesAndBytesAreOneToOne(t *testing.T) {
	seen := map[string]api.Page{}
	for _, p := range rightPages() {
		s, e := page.Encode(p)
		if e != api.OK {
			t.Fatalf("Encode(%s): %v", named(p), e)
		}
		wantDecoded(t, s, p)
		if q, ok := seen[s]; ok && q != p {
			t.Fatalf("%s and %s have the same bytes", named(p), named(q))
		}
		seen[s] = p
	}
}

func TestWhatIsWrittenIsRead(t *testing.T) {
	d := made(t, api.MaxSectors)
	for _, p := range rightPages() {
		write(t, d, p)
		wantRead(t, d, p.Id, p)
	}
	many := made(t, 40)
	var all []api.Page
	for id := uint32(2); id < 10; id++ {
		all = append(all, api.Page{Kind: 1 + int(id)%3, Id: id, Tx: uint64(id) * 1000, Body: row(int(id) * 23)})
	}
	for _, p := range all {
		write(t, many, p)
	}
	many.Sync()
	many.Crash(nil)
	for _, p := range all {
		wantRead(t, many, p.Id, p)
	}
}

// changedPages is pages of which each byte is changed, of many lengths.
func changedPages() []api.Page {
	all := []api.Page{
		{Kind: api.PageLeaf, Id: 2, Tx: 1},
		{Kind: api.PageLeaf, Id: 2, Tx: 1, Body: strings.Repeat("\x00", 237)},
		{Kind: api.PageFree, Id: 16383, Tx: math.MaxUint64, Body: strings.Repeat("\xff", 237)},
	}
	for _, n := range []int{1, 2, 3, 4, 5, 19, 100, 233, 236, 237} {
		all = append(all, api.Page{Kind: 1 + n%3, Id: uint32(2 + n), Tx: uint64(n) << 30, Body: row(n)})
	}
	return all
}

func TestAPageOfWhichOneByteWasChangedIsNone(t *testing.T) {
	for _, p := range changedPages() {
		s := []byte(plain(p))
		for at, was := range s {
			for c := range 256 {
				if byte(c) == was {
					continue
				}
				s[at] = byte(c)
				wantNone(t, string(s))
			}
			s[at] = was
		}
		wantDecoded(t, string(s), p)
	}
}

// Where the length is told otherwise, the seal is looked for elsewhere: it is not found there either.
func TestAPageOfWhichTheLengthWasChangedIsNone(t *testing.T) {
	for n := range 238 {
		for tx := range uint64(60) {
			p := api.Page{Kind: api.PageLeaf, Id: 2, Tx: tx + 1, Body: row(n)}
			s := []byte(plain(p))
			for _, by := range []int{-4, -3, -2, -1, 1, 2, 3, 4} {
				s[14] = byte(n + by)
				wantNone(t, string(s))
			}
		}
	}
}

func TestAPageOnADiskOfWhichOneByteWasChangedIsNone(t *testing.T) {
	p := api.Page{Kind: api.PageBranch, Id: 2, Tx: 77, Body: row(150)}
	s := plain(p)
	for at := range 256 {
		d := made(t, 12)
		write(t, d, p)
		changed := s[:at] + string([]byte{s[at] ^ 0x41}) + s[at+1:]
		lay(t, d, 8, changed)
		wantUnread(t, d, 2, api.ErrPage)
		write(t, d, p)
		wantRead(t, d, 2, p)
	}
}
