package codec_test

import (
	"math"
	"slices"
	"strings"
	"testing"

	"bazaar/api"
	"bazaar/codec"
)

// P17.1: Request and ParseRequest.

func TestRequestByHand(t *testing.T) {
	none := strings.Repeat("\x00", 8)
	wantRequest(t, of(api.OpOpen, 1, 0, 0, 0, 0), "\x01"+"\x00\x00\x00\x01"+"\x00\x00\x00\x00"+"\x00\x00"+none+none)
	wantRequest(t, of(api.OpSend, 258, 3, 4, -1, 5), "\x0a"+"\x00\x00\x01\x02"+"\x00\x00\x00\x03"+"\x00\x04"+"\xff\xff\xff\xff\xff\xff\xff\xff"+"\x00\x00\x00\x00\x00\x00\x00\x05")
	wantRequest(t, of(api.OpLeave, 0, 0, 0, 0, 0), "\x15"+strings.Repeat("\x00", 26))
	wantRequest(t, of(api.OpTotal, 4294967295, 4294967295, 65535, -1, -1), "\x13"+strings.Repeat("\xff", 26))
	wantRequest(t, of(api.OpWatch, 0x01020304, 0x05060708, 0x090a, 0x0b0c0d0e0f101112, 0x131415161718191a), "\x14\x01\x02\x03\x04\x05\x06\x07\x08\x09\x0a\x0b\x0c\x0d\x0e\x0f\x10\x11\x12\x13\x14\x15\x16\x17\x18\x19\x1a")
	wantRequest(t, of(api.OpMint, 1, 0, 0, math.MinInt64, math.MaxInt64), "\x02"+"\x00\x00\x00\x01"+"\x00\x00\x00\x00"+"\x00\x00"+"\x80\x00\x00\x00\x00\x00\x00\x00"+"\x7f\xff\xff\xff\xff\xff\xff\xff")
	wantRequest(t, of(api.OpMint, 0, 1, 1, 256, -256), "\x02"+"\x00\x00\x00\x00"+"\x00\x00\x00\x01"+"\x00\x01"+"\x00\x00\x00\x00\x00\x00\x01\x00"+"\xff\xff\xff\xff\xff\xff\xff\x00")
}

// Each Op alone, and beside other numbers.
func TestRequestOfEachOp(t *testing.T) {
	all := ops()
	for op := -300; op <= 600; op++ {
		all = append(all, op, op+1<<32, op+1<<62)
	}
	for _, op := range all {
		for _, c := range []api.Command{of(op, 0, 0, 0, 0, 0), of(op, 1, 2, 3, 4, 5), of(op, 1<<32-1, 1<<32-1, 65535, -1, -1)} {
			if op >= 1 && op <= 21 {
				wantRequest(t, c, plainRequest(c))
			} else {
				wantNoRequest(t, c)
			}
		}
	}
}

func TestRequestOfEachNumber(t *testing.T) {
	for _, c := range someCommands() {
		wantRequest(t, c, plainRequest(c))
		for _, op := range []int{0, 22, -1, c.Op + 256, c.Op - 256, c.Op + 1<<32, math.MinInt, math.MaxInt} {
			wrong := c
			wrong.Op = op
			wantNoRequest(t, wrong)
		}
	}
	for item := range 1 << 16 {
		c := of(10, 1, 2, uint16(item), 3, 4)
		wantRequest(t, c, plainRequest(c))
	}
}

// All numbers that stand beside each other.
func TestRequestOfAllNumbers(t *testing.T) {
	for _, op := range []int{1, 10, 21} {
		for _, n := range amounts() {
			for _, m := range amounts() {
				for i, a := range ids() {
					c := of(op, a, ids()[len(ids())-1-i], items()[i%len(items())], n, m)
					wantRequest(t, c, plainRequest(c))
				}
			}
		}
	}
}

func TestParseRequestRefusesSizes(t *testing.T) {
	s := plainRequest(of(10, 0x01010101, 0x02020202, 0x0303, 0x0404040404040404, 0x0505050505050505))
	wantParsedRequest(t, s)
	wantNoCommand(t, "")
	for size := range 27 {
		wantNoCommand(t, s[:size])
		wantNoCommand(t, s[27-size:])
		wantNoCommand(t, strings.Repeat("\x01", size))
	}
	for _, more := range []string{"\x00", "\x01", "\xff", s[:8], s[:26], s, s + s, strings.Repeat(s, 5000)} {
		wantNoCommand(t, s+more)
		wantNoCommand(t, more+s)
	}
	// Bytes of one kind, of each number: only twenty-seven of them may be a command's.
	for size := range 120 {
		for _, b := range []string{"\x00", "\x01", "\x15", "\x16", "\xff"} {
			e := wantParsedRequest(t, strings.Repeat(b, size))
			if (e == api.OK) != (size == 27 && (b == "\x01" || b == "\x15")) {
				t.Errorf("%d bytes %x: %v", size, b, e)
			}
		}
	}
}

func TestParseRequestOfEachFirstByte(t *testing.T) {
	right := 0
	for b := range 256 {
		for _, rest := range []string{strings.Repeat("\x00", 26), strings.Repeat("\x01", 26), strings.Repeat("\xff", 26), long(26)} {
			if wantParsedRequest(t, string([]byte{byte(b)})+rest) == api.OK {
				right++
			}
		}
	}
	if right != 21*4 {
		t.Error(right)
	}
}

// Bytes of which one is another one: those of another command, or of none.
func TestParseRequestOfChangedBytes(t *testing.T) {
	for _, c := range []api.Command{of(1, 0, 0, 0, 0, 0), of(10, 258, 3, 4, -1, 5), of(21, 1<<32-1, 1<<32-1, 65535, -1, -1), of(7, 0x01020304, 0x05060708, 0x090a, 0x0b0c0d0e0f101112, 0x131415161718191a)} {
		of := make(map[api.Command]int)
		for at := range 27 {
			for b := range 256 {
				s := []byte(plainRequest(c))
				s[at] = byte(b)
				if wantParsedRequest(t, string(s)) == api.OK {
					d, _ := codec.ParseRequest(string(s))
					of[d]++
				}
			}
		}
		// Each is another command, but for the one whose byte was not changed.
		if len(of) != 26*255+21 || of[c] != 27 {
			t.Errorf("%v: %d commands, %d times this one", c, len(of), of[c])
		}
	}
}

// P17.1: Reply and ParseReply.

func TestReplyByHand(t *testing.T) {
	none := strings.Repeat("\x00", 8)
	wantReply(t, told(api.ErrFunds, 0, 0), "\x00\x70"+none+none)
	wantReply(t, told(0, 0, 0), strings.Repeat("\x00", 18))
	wantReply(t, told(999, 258, -2), "\x03\xe7"+"\x00\x00\x00\x00\x00\x00\x01\x02"+"\xff\xff\xff\xff\xff\xff\xff\xfe")
	wantReply(t, told(1, -1, -1), "\x00\x01"+strings.Repeat("\xff", 16))
	wantReply(t, told(255, 1, 0), "\x00\xff"+"\x00\x00\x00\x00\x00\x00\x00\x01"+none)
	wantReply(t, told(256, 0, 1), "\x01\x00"+none+"\x00\x00\x00\x00\x00\x00\x00\x01")
	wantReply(t, told(258, math.MinInt64, math.MaxInt64), "\x01\x02"+"\x80\x00\x00\x00\x00\x00\x00\x00"+"\x7f\xff\xff\xff\xff\xff\xff\xff")
	wantReply(t, told(2, 0x0102030405060708, 0x090a0b0c0d0e0f10), "\x00\x02\x01\x02\x03\x04\x05\x06\x07\x08\x09\x0a\x0b\x0c\x0d\x0e\x0f\x10")
}

// Each E alone, and beside other numbers.
func TestReplyOfEachError(t *testing.T) {
	all := errnos()
	for e := api.Errno(-1100); e <= 2100; e++ {
		all = append(all, e, e+1<<16, e+1<<32, e+1<<62)
	}
	for _, e := range all {
		for _, a := range []api.Answer{told(e, 0, 0), told(e, 1, 2), told(e, -1, -1), told(e, math.MinInt64, math.MaxInt64)} {
			if e >= 0 && e <= 999 {
				wantReply(t, a, plainReply(a))
			} else {
				wantNoReply(t, a)
			}
		}
	}
}

func TestReplyOfEachNumber(t *testing.T) {
	for _, a := range someAnswers() {
		wantReply(t, a, plainReply(a))
		for _, e := range []api.Errno{-1, 1000, a.E + 65536, a.E - 65536, a.E + 1<<32, math.MinInt, math.MaxInt} {
			wantNoReply(t, told(e, a.X, a.Y))
		}
	}
}

func TestParseReplyRefusesSizes(t *testing.T) {
	s := plainReply(told(257, 0x0202020202020202, 0x0303030303030303))
	wantParsedReply(t, s)
	wantNoAnswer(t, "")
	for size := range 18 {
		wantNoAnswer(t, s[:size])
		wantNoAnswer(t, s[18-size:])
		wantNoAnswer(t, strings.Repeat("\x01", size))
	}
	for _, more := range []string{"\x00", "\x01", "\xff", s[:8], s[:17], s, s + s, strings.Repeat(s, 5000)} {
		wantNoAnswer(t, s+more)
		wantNoAnswer(t, more+s)
	}
	// Bytes of one kind, of each number: only eighteen of them may be an answer's.
	for size := range 120 {
		for _, b := range []string{"\x00", "\x01", "\x03", "\x04", "\xff"} {
			e := wantParsedReply(t, strings.Repeat(b, size))
			if (e == api.OK) != (size == 18 && b < "\x04") {
				t.Errorf("%d bytes %x: %v", size, b, e)
			}
		}
	}
}

// All first two bytes that there are.
func TestParseReplyOfEachError(t *testing.T) {
	right := 0
	for e := range 1 << 16 {
		for _, rest := range []string{strings.Repeat("\x00", 16), long(16)} {
			if wantParsedReply(t, length(e)+rest) == api.OK {
				right++
			}
		}
	}
	if right != 1000*2 {
		t.Error(right)
	}
}

// Bytes of which one is another one: those of another answer, or of none.
func TestParseReplyOfChangedBytes(t *testing.T) {
	for _, a := range []api.Answer{told(0, 0, 0), told(112, 258, -2), told(231, -1, -1), told(1, 0x0102030405060708, 0x090a0b0c0d0e0f10)} {
		of := make(map[api.Answer]int)
		for at := range 18 {
			for b := range 256 {
				s := []byte(plainReply(a))
				s[at] = byte(b)
				if wantParsedReply(t, string(s)) == api.OK {
					d, _ := codec.ParseReply(string(s))
					of[d]++
				}
			}
		}
		// Of the first byte 0 to 3 are right here, as the second one is less than 232.
		if len(of) != 17*255+4 || of[a] != 18 {
			t.Errorf("%v: %d answers, %d times this one", a, len(of), of[a])
		}
	}
}

// P17.2: Frame.

func TestFrameByHand(t *testing.T) {
	wantFrame(t, "xyz", "\x00\x03xyz")
	wantFrame(t, "\x00", "\x00\x01\x00")
	wantFrame(t, "\xff\xfe", "\x00\x02\xff\xfe")
	wantFrame(t, "\x00\x00", "\x00\x02\x00\x00")
	wantFrame(t, "\x00\x01a", "\x00\x03\x00\x01a")
	wantFrame(t, strings.Repeat("a", 100), "\x00\x64"+strings.Repeat("a", 100))
	wantFrame(t, strings.Repeat("\xff", 99), "\x00\x63"+strings.Repeat("\xff", 99))
	wantNoFrame(t, "")
	wantNoFrame(t, strings.Repeat("a", 101))
}

func TestFrameOfEachSize(t *testing.T) {
	sizes := []int{65535, 65536, 65537, 65636, 65637, 1 << 17, 1<<20 + 5}
	for size := range 1100 {
		sizes = append(sizes, size)
	}
	for _, size := range sizes {
		for _, s := range []string{long(size), strings.Repeat("\x00", size), strings.Repeat("\xff", size)} {
			if size >= 1 && size <= 100 {
				wantFrame(t, s, length(size)+s)
			} else {
				wantNoFrame(t, s)
			}
		}
	}
}

// What bytes a frame holds makes no difference.
func TestFrameOfEachByte(t *testing.T) {
	for a := range 256 {
		wantFrame(t, string([]byte{byte(a)}), "\x00\x01"+string([]byte{byte(a)}))
		for b := range 256 {
			s := string([]byte{byte(a), byte(b)})
			wantFrame(t, s, "\x00\x02"+s)
		}
	}
}

// P17.2: Split.

func TestSplitByHand(t *testing.T) {
	hundred := strings.Repeat("h", 100)
	for _, row := range []struct {
		stream string
		pieces []string
		rest   string
		e      api.Errno
	}{
		{"", nil, "", api.OK},
		// One byte is no length yet, whatever it is.
		{"\x00", nil, "\x00", api.OK},
		{"\x01", nil, "\x01", api.OK},
		{"a", nil, "a", api.OK},
		{"\xff", nil, "\xff", api.OK},
		// A length alone.
		{"\x00\x00", nil, "\x00\x00", api.ErrBad},
		{"\x00\x01", nil, "\x00\x01", api.OK},
		{"\x00\x64", nil, "\x00\x64", api.OK},
		{"\x00\x65", nil, "\x00\x65", api.ErrBad},
		{"\x01\x00", nil, "\x01\x00", api.ErrBad},
		{"\x01\x01", nil, "\x01\x01", api.ErrBad},
		{"\x64\x00", nil, "\x64\x00", api.ErrBad},
		{"\xff\xff", nil, "\xff\xff", api.ErrBad},
		// A frame, one byte less, one byte more.
		{"\x00\x01a", []string{"a"}, "", api.OK},
		{"\x00\x02a", nil, "\x00\x02a", api.OK},
		{"\x00\x01ab", []string{"a"}, "b", api.OK},
		{"\x00\x01a\x00", []string{"a"}, "\x00", api.OK},
		{"\x00\x64" + hundred, []string{hundred}, "", api.OK},
		{"\x00\x64" + hundred[1:], nil, "\x00\x64" + hundred[1:], api.OK},
		{"\x00\x64" + hundred + "\x00", []string{hundred}, "\x00", api.OK},
		{"\x00\x65" + hundred + "h", nil, "\x00\x65" + hundred + "h", api.ErrBad},
		// Several frames, and a rest.
		{"\x00\x01a\x00\x02bc", []string{"a", "bc"}, "", api.OK},
		{"\x00\x01a\x00\x01a", []string{"a", "a"}, "", api.OK},
		{"\x00\x01a\x00\x02bc\x00\x05de", []string{"a", "bc"}, "\x00\x05de", api.OK},
		{"\x00\x01a\x00\x02bc\x00\x05", []string{"a", "bc"}, "\x00\x05", api.OK},
		{"\x00\x64" + hundred + "\x00\x01a\x00\x64" + hundred, []string{hundred, "a", hundred}, "", api.OK},
		// A length that is 0, or above 100: first, behind frames, ahead of others, or told by one byte alone.
		{"\x00\x00\x00\x01a", nil, "\x00\x00\x00\x01a", api.ErrBad},
		{"\x00\x65\x00\x01a", nil, "\x00\x65\x00\x01a", api.ErrBad},
		{"\x00\x01a\x00\x00bc", []string{"a"}, "\x00\x00bc", api.ErrBad},
		{"\x00\x01a\x00\x00", []string{"a"}, "\x00\x00", api.ErrBad},
		{"\x00\x01a\x00\x65", []string{"a"}, "\x00\x65", api.ErrBad},
		{"\x00\x01a\x00\x02bc\xff\xff\x00\x01d", []string{"a", "bc"}, "\xff\xff\x00\x01d", api.ErrBad},
		{"\x00\x01a\x00\x00\x00\x00", []string{"a"}, "\x00\x00\x00\x00", api.ErrBad},
		{"\x00\x01a\x01", []string{"a"}, "\x01", api.OK},
		{"\x00\x01a\xff", []string{"a"}, "\xff", api.OK},
		// Within a frame, and within a rest, bytes 0 are no length.
		{"\x00\x04\x00\x00\x00\x00\x00\x01a", []string{"\x00\x00\x00\x00", "a"}, "", api.OK},
		{"\x00\x05\x00\x00\xff\xff", nil, "\x00\x05\x00\x00\xff\xff", api.OK},
		{"\x00\x03\x00\x01a\x00\x01b", []string{"\x00\x01a", "b"}, "", api.OK},
	} {
		wantSplit(t, row.stream, row.pieces, row.rest, row.e)
		wantSplitAsTold(t, row.stream)
	}
}

// All lengths that two bytes tell: first, and behind frames, with nothing, too little, just enough, and more behind them.
func TestSplitOfEachLength(t *testing.T) {
	for n := range 1 << 16 {
		for _, ahead := range [][]string{nil, {"a", "bc"}} {
			for _, behind := range []int{0, n - 1, n, n + 1, 1, 99, 100, 101, 102} {
				rest := length(n) + long(min(max(behind, 0), 300))
				s := framed(ahead...) + rest
				wantSplitAsTold(t, s)
				if n == 0 || n > 100 {
					wantSplit(t, s, ahead, rest, api.ErrBad)
				}
			}
		}
	}
}

func TestSplitOfEachByte(t *testing.T) {
	for b := range 256 {
		s := string([]byte{byte(b)})
		wantSplit(t, s, nil, s, api.OK)
		wantSplit(t, framed("a")+s, []string{"a"}, s, api.OK)
		wantSplit(t, framed("\x00", "\x00\x00")+s, []string{"\x00", "\x00\x00"}, s, api.OK)
		wantSplit(t, framed(s)+s, []string{s}, s, api.OK)
	}
}

// All short streams of a few bytes.
func TestSplitOfShortStreams(t *testing.T) {
	told := make(map[api.Errno]int)
	var streams func(s string, more int)
	streams = func(s string, more int) {
		told[wantSplitAsTold(t, s)]++
		if more == 0 {
			return
		}
		for _, b := range []string{"\x00", "\x01", "\x02", "\x64", "\x65"} {
			streams(s+b, more-1)
		}
	}
	streams("", 7)
	if told[api.OK] < 1000 || told[api.ErrBad] < 1000 {
		t.Error(told)
	}
}

// Streams of rolled bytes, most of which are small.
func TestSplitOfRolledStreams(t *testing.T) {
	next := roll()
	told := make(map[api.Errno]int)
	for range 30000 {
		b := make([]byte, next(60))
		for i := range b {
			b[i] = byte(next(3) * next(5))
		}
		told[wantSplitAsTold(t, string(b))]++
	}
	if told[api.OK] < 1000 || told[api.ErrBad] < 1000 {
		t.Error(told)
	}
}

func TestSplitOfManyFrames(t *testing.T) {
	for _, piece := range []string{"a", "\x00", strings.Repeat("h", 27), strings.Repeat("\xff", 100)} {
		pieces := slices.Repeat([]string{piece}, 100000)
		s := framed(pieces...)
		for _, rest := range []string{"", "\x00", "\x00\x02b", "\x00\x64" + piece[:len(piece)-1], "\x01"} {
			wantSplit(t, s+rest, pieces, rest, api.OK)
		}
		for _, rest := range []string{"\x00\x00", "\x00\x65b", "\x01\x00" + framed(piece), "\xff\xff", strings.Repeat("\x00", 100000)} {
			wantSplit(t, s+rest, pieces, rest, api.ErrBad)
		}
	}
}

// R2, R3: what is answered shares no list, and no spare room, with another answer, and the argument stays what it is.

func TestAnswersShareNoList(t *testing.T) {
	for _, s := range []string{framed("a", "bc", "def"), framed("a", "bc", "def") + "\x00\x05de", framed("a", "bc") + "\x00\x00x", framed(slices.Repeat([]string{"xyz"}, 100)...)} {
		was := strings.Clone(s)
		first, rest, e := codec.Split(s)
		second, _, _ := codec.Split(s)
		want := slices.Clone(first)
		second = second[:cap(second)]
		for i := range second {
			second[i] = "junk"
		}
		if !slices.Equal(first, want) || s != was {
			t.Errorf("Split(%x) shares memory: %x", brief(s), first)
		}
		room := first[:cap(first)]
		for i := range room {
			room[i] = "junk"
		}
		wantSplit(t, s, want, rest, e)
	}
}

// Calls keep nothing: what they answer does not hang on those ahead of them.
func TestNothingIsKept(t *testing.T) {
	c, a := of(10, 258, 3, 4, -1, 5), told(999, 258, -2)
	for range 3 {
		wantRequest(t, c, plainRequest(c))
		wantNoRequest(t, of(22, 258, 3, 4, -1, 5))
		wantNoCommand(t, plainRequest(c)[1:])
		wantReply(t, a, plainReply(a))
		wantNoReply(t, told(1000, 258, -2))
		wantNoAnswer(t, plainReply(a)+"\x00")
		wantSplit(t, "\x00\x02a", nil, "\x00\x02a", api.OK)
		wantSplit(t, "b", nil, "b", api.OK)
		wantFrame(t, "ab", "\x00\x02ab")
		wantNoFrame(t, "")
		wantSplit(t, "\x00\x00\x00", nil, "\x00\x00\x00", api.ErrBad)
	}
}

// P17.3.

func TestRequestsOneToOne(t *testing.T) {
	of := make(map[string]api.Command)
	seen := make(map[api.Command]int)
	for _, c := range someCommands() {
		s, e := codec.Request(c)
		if e != api.OK || len(s) != api.RequestSize {
			t.Fatalf("Request(%v): %x %v", c, s, e)
		}
		if other, is := of[s]; is && other != c {
			t.Fatalf("Request(%v): %x, as %v", c, s, other)
		}
		of[s] = c
		seen[c]++
		if back, e := codec.ParseRequest(s); back != c || e != api.OK {
			t.Fatalf("ParseRequest(%x): %v %v, want %v", s, back, e, c)
		}
	}
	if len(of) != len(seen) || len(of) < 1000 {
		t.Errorf("%d commands, %d bytes", len(seen), len(of))
	}
}

func TestRepliesOneToOne(t *testing.T) {
	of := make(map[string]api.Answer)
	all := someAnswers()
	for e := range api.Errno(1000) {
		all = append(all, told(e, 5, 6))
	}
	for _, a := range all {
		s, e := codec.Reply(a)
		if other, is := of[s]; is || e != api.OK || len(s) != api.ReplySize {
			t.Fatalf("Reply(%v): %x %v, as %v", a, s, e, other)
		}
		of[s] = a
		if back, e := codec.ParseReply(s); back != a || e != api.OK {
			t.Fatalf("ParseReply(%x): %v %v, want %v", s, back, e, a)
		}
	}
	if len(of) != len(all) || len(of) < 1000 {
		t.Error(len(of))
	}
}

// Rolled bytes: those of a command, an answer, have no others.
func TestRolledBytesOneToOne(t *testing.T) {
	next := roll()
	told := make(map[api.Errno]int)
	for range 30000 {
		b := make([]byte, 27)
		for i := range b {
			b[i] = byte(next(256))
		}
		b[0] = byte(next(23))
		told[wantParsedRequest(t, string(b))]++
		b[0] = byte(next(5))
		told[wantParsedReply(t, string(b[:18]))]++
	}
	if told[api.OK] < 10000 || told[api.ErrBad] < 1000 {
		t.Error(told)
	}
}

// manyPieces is pieces of many sizes, and such as look like frames, or like lengths.
func manyPieces() [][]string {
	var sizes []string
	for _, size := range []int{1, 2, 3, 18, 27, 63, 64, 65, 99, 100} {
		sizes = append(sizes, long(size))
	}
	request, reply := plainRequest(of(10, 258, 3, 4, -1, 5)), plainReply(told(112, 0, 0))
	return [][]string{
		nil, {"a"}, {"\x00"}, {"a", "bc"}, {"\x00", "\x00\x00", "\x00\x00\x00"}, {"\xff\xff", "\x00\x65", "\x00\x64"},
		{"\x00\x01a", "\x00\x01", "\x00\x02a"}, {long(100), "x", long(99), long(100)}, {request, reply, request, request}, sizes,
	}
}

func TestFramedIsSplit(t *testing.T) {
	for _, pieces := range manyPieces() {
		s := ""
		for _, p := range pieces {
			f, e := codec.Frame(p)
			if e != api.OK {
				t.Fatalf("Frame(%x): %v", p, e)
			}
			s += f
		}
		wantSplit(t, s, pieces, "", api.OK)
	}
}

// fed is what streams are split into that come one behind the other: each behind the rest of those ahead, till an error is told.
func fed(t *testing.T, streams ...string) ([]string, string, api.Errno) {
	t.Helper()
	var l []string
	rest := ""
	for i, s := range streams {
		more, left, e := codec.Split(rest + s)
		l = append(l, more...)
		rest = left
		if e != api.OK {
			return l, rest + strings.Join(streams[i+1:], ""), e
		}
	}
	return l, rest, api.OK
}

// tails is what may stand behind frames: a rest, or a length that is 0, or above 100.
func tails() []string {
	return []string{"", "\x00", "\x01", "\xff", "\x00\x01", "\x00\x64", "\x00\x05de", "\x00\x00", "\x00\x00bc", "\x00\x65", "\x01\x00\x00\x01a", "\xff\xff\xff", "\x00\x00\x00\x01a"}
}

// Streams that are cut at one place, and at two.
func TestStreamsAreCut(t *testing.T) {
	for _, pieces := range manyPieces() {
		for _, tail := range tails() {
			s := framed(pieces...) + tail
			_, _, e := plainSplit(tail)
			for at := range len(s) + 1 {
				if l, rest, f := fed(t, s[:at], s[at:]); !slices.Equal(l, pieces) || rest != tail || f != e {
					t.Fatalf("%x, cut at %d: %x, %x, %v, want %x, %x, %v", brief(s), at, l, brief(rest), f, pieces, tail, e)
				}
				// What stands ahead of the cut is split, too, though nothing comes behind it.
				wantSplitAsTold(t, s[:at])
			}
			if len(s) > 60 {
				continue
			}
			for at := range len(s) + 1 {
				for to := at; to <= len(s); to++ {
					if l, rest, f := fed(t, s[:at], s[at:to], s[to:]); !slices.Equal(l, pieces) || rest != tail || f != e {
						t.Fatalf("%x, cut at %d and %d: %x, %x, %v", s, at, to, l, rest, f)
					}
				}
			}
		}
	}
}

// Streams that come by so many bytes, turn by turn; one byte at a time is the least.
func TestStreamsComeByAndBy(t *testing.T) {
	for _, pieces := range manyPieces() {
		for _, tail := range tails() {
			s := framed(pieces...) + tail
			_, _, e := plainSplit(tail)
			for _, size := range []int{1, 2, 3, 5, 27, 29, 100, 101, 102, 103, 5000} {
				var parts []string
				for part := range slices.Chunk([]byte(s), size) {
					parts = append(parts, string(part))
				}
				if l, rest, f := fed(t, parts...); !slices.Equal(l, pieces) || rest != tail || f != e {
					t.Fatalf("%x, by %d: %x, %x, %v, want %x, %x, %v", brief(s), size, l, brief(rest), f, pieces, tail, e)
				}
			}
		}
	}
}

// Whatever a stream is: what it is split into is all of it, and of its rest nothing more is split, which tells the same error.
func TestSplitLosesNothing(t *testing.T) {
	next := roll()
	frames := 0
	for range 20000 {
		var s strings.Builder
		for range next(6) {
			s.WriteString(framed(long(1 + next(100))))
		}
		b := make([]byte, next(6))
		for i := range b {
			b[i] = byte(next(3))
		}
		s.Write(b)
		l, rest, e := codec.Split(s.String())
		if framed(l...)+rest != s.String() {
			t.Fatalf("Split(%x): %x, %x", s.String(), l, rest)
		}
		wantSplit(t, rest, nil, rest, e)
		frames += len(l)
	}
	if frames < 10000 {
		t.Error(frames)
	}
}
