package sum_test

import (
	"hash/adler32"
	"math"
	"strings"
	"testing"

	"bazaar/api"
	"bazaar/sum"
)

// plain is the sum as the chapter tells it, from two numbers on, byte by byte.
func plain(a, b uint64, s string) uint32 {
	for i := range len(s) {
		a = (a + uint64(s[i])) % 65521
		b = (b + a) % 65521
	}
	return uint32(b*65536 + a)
}

// row is n bytes of a fixed row of them.
func row(n int) string {
	bytes, x := make([]byte, n), uint32(7)
	for i := range bytes {
		x = x*1664525 + 1013904223
		bytes[i] = byte(x >> 24)
	}
	return string(bytes)
}

// texts is texts of many kinds, short ones.
func texts() []string {
	return []string{
		"", "a", "\x00", "\xff", "ab", "ba", "aa", "\x00\x00\x00\x00", "\x00\x00\x00\x01",
		"Wikipedia", "z\u00e4\u20ac", "\xc3", "\xff\xfe\x80", strings.Repeat("\xff", 600), row(300),
	}
}

// wantMore checks what More answers.
func wantMore(t *testing.T, from uint32, s string, want uint32) {
	t.Helper()
	if got, e := sum.More(from, s); got != want || e != api.OK {
		t.Errorf("More(%08x, %d bytes): %08x %v, want %08x", from, len(s), got, e, want)
	}
}

// wantJoin checks what Join answers.
func wantJoin(t *testing.T, a, b uint32, n int, want uint32) {
	t.Helper()
	if got, e := sum.Join(a, b, n); got != want || e != api.OK {
		t.Errorf("Join(%08x, %08x, %d): %08x %v, want %08x", a, b, n, got, e, want)
	}
}

// wantUnopened checks that bytes are refused.
func wantUnopened(t *testing.T, s string) {
	t.Helper()
	if got, e := sum.Open(s); got != "" || e != api.ErrSum {
		t.Fatalf("Open(%q): %q %v", s, got, e)
	}
}

// wantOpened checks that bytes are opened.
func wantOpened(t *testing.T, s, want string) {
	t.Helper()
	if got, e := sum.Open(s); got != want || e != api.OK {
		t.Fatalf("Open(%q): %q %v, want %q", s, got, e, want)
	}
}

// P2.1: Sum.

func TestSum(t *testing.T) {
	for _, c := range []struct {
		s    string
		want uint32
	}{
		{"", 0x00000001},
		{"Wikipedia", 0x11e60398},
		{"a", 0x00620062},
		{"\x00", 0x00010001},
		{"\xff", 0x01000100},
		{"\x00\x00", 0x00020001},
		{"ab", 0x012600c4},
		{"ba", 0x012700c4},
	} {
		if got := sum.Sum(c.s); got != c.want {
			t.Errorf("Sum(%q): %08x, want %08x", c.s, got, c.want)
		}
	}
}

func TestSumOfMany(t *testing.T) {
	for _, s := range append(texts(), row(5552), row(5553), row(70000), strings.Repeat("\xff", 1<<20), strings.Repeat("\x00", 65521)) {
		got := sum.Sum(s)
		if want := plain(1, 0, s); got != want {
			t.Errorf("%d bytes: %08x, want %08x", len(s), got, want)
		}
		if want := adler32.Checksum([]byte(s)); got != want {
			t.Errorf("%d bytes: %08x, the library says %08x", len(s), got, want)
		}
	}
}

// Sums whose halves come to 65520, and to 65521, which is 0.
func TestSumAtTheModulus(t *testing.T) {
	low := strings.Repeat("\xff", 256) // 65280, and 1
	for c, want := range map[byte]uint32{238: 65519, 239: 65520, 240: 0, 241: 1} {
		if got := sum.Sum(low+string([]byte{c})) & 0xffff; got != want {
			t.Errorf("lower half with %d: %d, want %d", c, got, want)
		}
	}
	// Of bytes 0 the upper half is how many there are.
	for n, want := range map[int]uint32{65519: 65519, 65520: 65520, 65521: 0, 65522: 1} {
		if got := sum.Sum(strings.Repeat("\x00", n)); got != want<<16|1 {
			t.Errorf("%d bytes 0: %08x", n, got)
		}
	}
}

// P2.1: More.

func TestMoreGoesOn(t *testing.T) {
	for _, s := range texts() {
		wantMore(t, 1, s, sum.Sum(s))
		for n := 0; n <= len(s); n++ {
			wantMore(t, sum.Sum(s[:n]), s[n:], sum.Sum(s))
		}
	}
}

func TestMoreAtTheModulus(t *testing.T) {
	for _, c := range []struct {
		from uint32
		s    string
		want uint32
	}{
		{0x00000000, "", 0x00000000},
		{0x00000000, "\x00", 0x00000000},
		{0xfff0fff0, "", 0xfff0fff0},
		{0xfff0fff0, "\x00", 0xffeffff0},
		{0xfff0fff0, "\x01", 0xfff00000},
		{0xfff0fff0, "\x02", 0x00000001},
		{0xfff0fff0, "\xff", 0x00fd00fe},
		{0xfff00000, "\x00", 0xfff00000},
		{0xfff00000, "\x01", 0x00000001},
		{0x0000fff0, "\x00", 0xfff0fff0},
		{0x0001fff0, "\x00", 0x0000fff0},
		{0xfff00001, "\xff", 0x00ff0100},
	} {
		wantMore(t, c.from, c.s, c.want)
	}
	long := row(3000)
	for _, from := range []uint32{0, 1, 0xfff0, 0xfff00000, 0xfff0fff0, 0x12345678} {
		wantMore(t, from, long, plain(uint64(from&0xffff), uint64(from>>16), long))
	}
}

// wrongSums is numbers of which a half is not below 65521.
func wrongSums() []uint32 {
	return []uint32{0x0000fff1, 0xfff10000, 0xfff1fff1, 0xfff0fff1, 0xfff1fff0, 0x0000ffff, 0xffff0000, 0x0001fff2, 0xfff20001, math.MaxUint32}
}

func TestMoreRefuses(t *testing.T) {
	for _, from := range wrongSums() {
		for _, s := range texts() {
			if got, e := sum.More(from, s); got != 0 || e != api.ErrArg {
				t.Errorf("More(%08x, %q): %08x %v", from, s, got, e)
			}
		}
	}
}

// P2.1: Join.

func TestJoinOfParts(t *testing.T) {
	for _, a := range texts() {
		for _, b := range texts() {
			wantJoin(t, sum.Sum(a), sum.Sum(b), len(b), sum.Sum(a+b))
		}
	}
	wantJoin(t, sum.Sum("Wiki"), sum.Sum("pedia"), 5, 0x11e60398)
}

func TestJoinOfLongParts(t *testing.T) {
	for _, n := range []int{65520, 65521, 65522, 1048575, 1048576} {
		for _, b := range []string{row(n), strings.Repeat("\xff", n), strings.Repeat("\x00", n)} {
			for _, a := range []string{"", "a", strings.Repeat("\xff", 300), row(1000)} {
				wantJoin(t, sum.Sum(a), sum.Sum(b), n, sum.Sum(a+b))
			}
		}
	}
}

// Numbers at the edges, of which some are of no bytes: Join works them out all the same.
func TestJoinAtTheEdges(t *testing.T) {
	for _, c := range []struct {
		a, b uint32
		n    int
		want uint32
	}{
		{1, 1, 0, 0x00000001},
		{1, 1, 1048576, 0x00000001},
		{0, 0, 0, 0x0000fff0},
		{0, 0, 1, 0xfff0fff0},
		{0, 1, 1, 0xfff00000},
		{1, 0, 1, 0x00000000},
		{2, 0, 65521, 0x00000001},
		{2, 0, 65520, 0xfff00001},
		{0, 0, 1048576, 0xff01fff0},
		{0xfff0fff0, 0xfff0fff0, 0, 0xffefffee},
		{0xfff0fff0, 0xfff0fff0, 1, 0xffedffee},
		{0xfff0fff0, 0xfff0fff0, 1048576, 0xfe0fffee},
		{0xfff00001, 0x00010001, 7, 0x00000001},
		{0x0000fff0, 0x00000002, 0, 0x00000000},
	} {
		wantJoin(t, c.a, c.b, c.n, c.want)
	}
}

func TestJoinRefuses(t *testing.T) {
	for _, wrong := range wrongSums() {
		for _, right := range []uint32{0, 1, 0xfff0fff0} {
			for _, n := range []int{0, 1, 1048576, -1} {
				if got, e := sum.Join(wrong, right, n); got != 0 || e != api.ErrArg {
					t.Errorf("Join(%08x, %08x, %d): %08x %v", wrong, right, n, got, e)
				}
				if got, e := sum.Join(right, wrong, n); got != 0 || e != api.ErrArg {
					t.Errorf("Join(%08x, %08x, %d): %08x %v", right, wrong, n, got, e)
				}
			}
		}
	}
	for _, n := range []int{-1, -2, -1048576, 1048577, 2097152, 1 << 32, math.MinInt, math.MaxInt} {
		if got, e := sum.Join(1, 1, n); got != 0 || e != api.ErrArg {
			t.Errorf("Join(1, 1, %d): %08x %v", n, got, e)
		}
	}
}

// P2.2: Seal and Open.

func TestSeal(t *testing.T) {
	for s, want := range map[string]string{
		"":          "\x00\x00\x00\x01",
		"a":         "a\x00\x62\x00\x62",
		"Wikipedia": "Wikipedia\x11\xe6\x03\x98",
		"\xff":      "\xff\x01\x00\x01\x00",
	} {
		if got := sum.Seal(s); got != want {
			t.Errorf("Seal(%q): %q, want %q", s, got, want)
		}
	}
	for _, s := range append(texts(), row(100000)) {
		n := sum.Sum(s)
		want := s + string([]byte{byte(n >> 24), byte(n >> 16), byte(n >> 8), byte(n)})
		if got := sum.Seal(s); got != want {
			t.Errorf("Seal(%q): %q, want %q", s, got, want)
		}
	}
}

func TestOpen(t *testing.T) {
	wantOpened(t, "\x00\x00\x00\x01", "")
	wantOpened(t, "a\x00\x62\x00\x62", "a")
	wantOpened(t, "Wikipedia\x11\xe6\x03\x98", "Wikipedia")
	// A text of bytes 0 alone, as long as the modulus, has an upper half of 0.
	zeros := strings.Repeat("\x00", 65521)
	wantOpened(t, zeros+"\x00\x00\x00\x01", zeros)
}

func TestOpenRefuses(t *testing.T) {
	for _, s := range []string{
		"", "a", "ab", "abc", "\x00", "\x00\x01", "\x00\x00\x01", "\x01",
		"\x00\x00\x00\x00", "\x00\x00\x00\x02", "\x01\x00\x00\x00", "\x00\x01\x00\x01", "abcd", "\xff\xff\xff\xff",
		"a\x00\x62\x00\x63", "b\x00\x62\x00\x62", "a\x62\x00\x62\x00", "\x00\x62\x00\x62a", "a\x00\x62\x00", "\x00\x62\x00\x62",
		"aa\x00\x62\x00\x62", "a\x00\x62\x00\x62\x00", "a\x00\x62\x00\x62a",
		"\x00\x00\x00\x00\x01",
	} {
		wantUnopened(t, s)
	}
}

// A half that is the right one but for the modulus is another one.
func TestOpenRefusesHalvesPastTheModulus(t *testing.T) {
	wantUnopened(t, "\xff\xf1\x00\x01")
	wantUnopened(t, "\x00\x00\xff\xf2")
	zeros := strings.Repeat("\x00", 65521)
	wantUnopened(t, zeros+"\xff\xf1\x00\x01")
	low := strings.Repeat("\xff", 256) + "\xf0" // its lower half is 0
	up := sum.Sum(low) >> 16
	wantOpened(t, low+string([]byte{byte(up >> 8), byte(up), 0, 0}), low)
	wantUnopened(t, low+string([]byte{byte(up >> 8), byte(up), 0xff, 0xf1}))
}

// P2.2: Turn.

func TestTurn(t *testing.T) {
	for _, c := range []struct {
		s    string
		at   int
		want string
	}{
		{"ab", 0, "ba"},
		{"abc", 0, "bac"},
		{"abc", 1, "acb"},
		{"aab", 0, "aab"},
		{"abcdef", 0, "bacdef"},
		{"abcdef", 3, "abcedf"},
		{"abcdef", 4, "abcdfe"},
		{"\x00\xff", 0, "\xff\x00"},
		{"\u00e4b", 0, "\xa4\xc3b"},
		{"\u00e4b", 1, "\xc3b\xa4"},
	} {
		if got, e := sum.Turn(c.s, c.at); got != c.want || e != api.OK {
			t.Errorf("Turn(%q, %d): %q %v, want %q", c.s, c.at, got, e, c.want)
		}
	}
}

func TestTurnTwiceIsNone(t *testing.T) {
	for _, s := range texts() {
		for at := 0; at < len(s)-1; at++ {
			turned, e := sum.Turn(s, at)
			back, f := sum.Turn(turned, at)
			if back != s || len(turned) != len(s) || turned[at] != s[at+1] || turned[at+1] != s[at] || e != api.OK || f != api.OK {
				t.Errorf("%q, %d: %q %v, %q %v", s, at, turned, e, back, f)
			}
		}
	}
}

func TestTurnRefuses(t *testing.T) {
	for _, s := range texts() {
		for _, at := range []int{math.MinInt, -len(s), -2, -1, len(s) - 1, len(s), len(s) + 1, math.MaxInt} {
			if at >= 0 && at < len(s)-1 {
				continue
			}
			if got, e := sum.Turn(s, at); got != "" || e != api.ErrArg {
				t.Errorf("Turn(%q, %d): %q %v", s, at, got, e)
			}
		}
	}
}

// P2.3.

func TestWhatIsSealedIsOpened(t *testing.T) {
	for _, s := range append(texts(), row(100000)) {
		wantOpened(t, sum.Seal(s), s)
		wantOpened(t, sum.Seal(sum.Seal(s)), sum.Seal(s))
	}
}

func TestWhatIsChangedIsNotOpened(t *testing.T) {
	for _, s := range texts() {
		sealed := []byte(sum.Seal(s))
		for at, was := range sealed {
			for c := range 256 {
				if byte(c) == was {
					continue
				}
				sealed[at] = byte(c)
				wantUnopened(t, string(sealed))
			}
			sealed[at] = was
		}
	}
}

func TestWhatIsTurnedIsNotOpened(t *testing.T) {
	all := append(texts(), row(5000))
	for a := range 256 {
		for b := range 256 {
			all = append(all, string([]byte{byte(a), byte(b)}))
		}
	}
	for _, s := range all {
		sealed := sum.Seal(s)
		for at := range len(sealed) - 1 {
			turned, e := sum.Turn(sealed, at)
			if e != api.OK {
				t.Fatalf("Turn(%q, %d): %v", sealed, at, e)
			}
			if sealed[at] == sealed[at+1] {
				wantOpened(t, turned, s)
			} else {
				wantUnopened(t, turned)
			}
		}
	}
}
