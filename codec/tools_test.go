package codec_test

import (
	"encoding/binary"
	"math"
	"slices"
	"strings"
	"testing"

	"bazaar/api"
	"bazaar/codec"
)

// of is a command of these numbers.
func of(op int, a, b uint32, item uint16, n, m int64) api.Command {
	return api.Command{Op: op, A: a, B: b, Item: item, N: n, M: m}
}

// told is an answer of these numbers.
func told(e api.Errno, x, y int64) api.Answer { return api.Answer{E: e, X: x, Y: y} }

// noCommand is the command, and noAnswer the answer, that stands beside an error.
func noCommand() api.Command { return api.Command{} }

func noAnswer() api.Answer { return api.Answer{} }

// ops is numbers of commands, those at the ends, and those that are none, among them.
func ops() []int {
	return []int{
		math.MinInt, math.MinInt + 1, -1 << 32, -256, -255, -2, -1, 0, 1, 2, 10, 16, 19, 20, 21, 22, 23, 255, 256, 257, 277, 1<<16 + 1, 1<<32 + 1, 1<<32 + 21, 1 << 40, math.MaxInt - 1, math.MaxInt,
	}
}

// errnos is numbers of errors, those at the ends, and those that no reply has, among them.
func errnos() []api.Errno {
	return []api.Errno{
		math.MinInt, math.MinInt + 1, -65536, -65535, -999, -2, -1, 0, 1, 2, 112, 255, 256, 257, 512, 998, 999, 1000, 1001, 1023, 1024, 65535, 65536, 65537, 1<<32 + 1, math.MaxInt - 1, math.MaxInt,
	}
}

// amounts is numbers of eight bytes.
func amounts() []int64 {
	return []int64{
		math.MinInt64, math.MinInt64 + 1, -1 << 32, -257, -256, -2, -1, 0, 1, 2, 127, 128, 255, 256, 258, 1<<31 - 1, 1 << 32, 1<<40 + 7, 1 << 60, 0x0102030405060708, math.MaxInt64 - 1, math.MaxInt64,
	}
}

// ids is numbers of four bytes, items of two.
func ids() []uint32 {
	return []uint32{0, 1, 255, 256, 258, 1000000, 1 << 24, 0x01020304, 1 << 31, 1<<32 - 1}
}

func items() []uint16 { return []uint16{0, 1, 255, 256, 258, 32768, 65535} }

// someCommands is commands that have bytes, each with another number at its ends, or with all numbers of a kind together.
func someCommands() []api.Command {
	var l []api.Command
	for op := 1; op <= 21; op++ {
		c := of(op, 0x11121314, 0x21222324, 0x3132, 0x4142434445464748, 0x5152535455565758)
		l = append(l, c, of(op, 0, 0, 0, 0, 0), of(op, math.MaxUint32, math.MaxUint32, math.MaxUint16, -1, -1))
		for _, id := range ids() {
			l = append(l, of(op, id, c.B, c.Item, c.N, c.M), of(op, c.A, id, c.Item, c.N, c.M), of(op, id, 0, 0, 0, 0), of(op, 0, id, 0, 0, 0))
		}
		for _, item := range items() {
			l = append(l, of(op, c.A, c.B, item, c.N, c.M), of(op, 0, 0, item, 0, 0))
		}
		for _, n := range amounts() {
			l = append(l, of(op, c.A, c.B, c.Item, n, c.M), of(op, c.A, c.B, c.Item, c.N, n), of(op, 0, 0, 0, n, 0), of(op, 0, 0, 0, 0, n))
		}
	}
	return l
}

// someAnswers is answers that have bytes.
func someAnswers() []api.Answer {
	var l []api.Answer
	for _, e := range []api.Errno{0, 1, 112, 255, 256, 998, 999} {
		for _, x := range amounts() {
			for _, y := range amounts() {
				l = append(l, told(e, x, y))
			}
		}
	}
	return l
}

// plainRequest is a command's bytes, by the chapter's words, be its Op right or not.
func plainRequest(c api.Command) string {
	b := []byte{byte(c.Op)}
	b = binary.BigEndian.AppendUint32(b, c.A)
	b = binary.BigEndian.AppendUint32(b, c.B)
	b = binary.BigEndian.AppendUint16(b, c.Item)
	b = binary.BigEndian.AppendUint64(b, uint64(c.N))
	return string(binary.BigEndian.AppendUint64(b, uint64(c.M)))
}

// plainParseRequest is the command of bytes, by the chapter's words.
func plainParseRequest(s string) (api.Command, api.Errno) {
	if len(s) != 27 || s[0] < 1 || s[0] > 21 {
		return noCommand(), api.ErrBad
	}
	b, big := []byte(s), binary.BigEndian
	return of(int(b[0]), big.Uint32(b[1:5]), big.Uint32(b[5:9]), big.Uint16(b[9:11]), int64(big.Uint64(b[11:19])), int64(big.Uint64(b[19:27]))), api.OK
}

// plainReply is an answer's bytes, by the chapter's words, be its E right or not.
func plainReply(a api.Answer) string {
	b := binary.BigEndian.AppendUint16(nil, uint16(a.E))
	b = binary.BigEndian.AppendUint64(b, uint64(a.X))
	return string(binary.BigEndian.AppendUint64(b, uint64(a.Y)))
}

// plainParseReply is the answer of bytes, by the chapter's words.
func plainParseReply(s string) (api.Answer, api.Errno) {
	if len(s) != 18 {
		return noAnswer(), api.ErrBad
	}
	b, big := []byte(s), binary.BigEndian
	if big.Uint16(b) > 999 {
		return noAnswer(), api.ErrBad
	}
	return told(api.Errno(big.Uint16(b)), int64(big.Uint64(b[2:10])), int64(big.Uint64(b[10:18]))), api.OK
}

// plainSplit is what a stream holds, by the chapter's words: the first frame, and what the stream behind it holds.
func plainSplit(s string) ([]string, string, api.Errno) {
	if len(s) < 2 {
		return nil, s, api.OK
	}
	length := 256*int(s[0]) + int(s[1])
	switch {
	case length == 0, length > 100:
		return nil, s, api.ErrBad
	case len(s) < 2+length:
		return nil, s, api.OK
	}
	l, rest, e := plainSplit(s[2+length:])
	return append([]string{s[2 : 2+length]}, l...), rest, e
}

// wantRequest checks that a command has these bytes, and that they are its own.
func wantRequest(t *testing.T, c api.Command, want string) {
	t.Helper()
	if s, e := codec.Request(c); s != want || e != api.OK {
		t.Fatalf("Request(%v): %x %v, want %x", c, s, e, want)
	}
	if back, e := codec.ParseRequest(want); back != c || e != api.OK {
		t.Fatalf("ParseRequest(%x): %v %v, want %v", want, back, e, c)
	}
}

// wantNoRequest checks that a command has no bytes.
func wantNoRequest(t *testing.T, c api.Command) {
	t.Helper()
	if s, e := codec.Request(c); s != "" || e != api.ErrBad {
		t.Fatalf("Request(%v): %x %v, want ErrBad", c, s, e)
	}
}

// wantNoCommand checks that bytes are no command's.
func wantNoCommand(t *testing.T, s string) {
	t.Helper()
	if c, e := codec.ParseRequest(s); c != noCommand() || e != api.ErrBad {
		t.Fatalf("ParseRequest(%x): %v %v, want ErrBad", brief(s), c, e)
	}
}

// wantParsedRequest checks that ParseRequest answers what the chapter's words tell, and that a command's bytes are these again.
func wantParsedRequest(t *testing.T, s string) api.Errno {
	t.Helper()
	want, e := plainParseRequest(s)
	if e != api.OK {
		wantNoCommand(t, s)
		return e
	}
	wantRequest(t, want, s)
	return e
}

// wantReply checks that an answer has these bytes, and that they are its own.
func wantReply(t *testing.T, a api.Answer, want string) {
	t.Helper()
	if s, e := codec.Reply(a); s != want || e != api.OK {
		t.Fatalf("Reply(%v): %x %v, want %x", a, s, e, want)
	}
	if back, e := codec.ParseReply(want); back != a || e != api.OK {
		t.Fatalf("ParseReply(%x): %v %v, want %v", want, back, e, a)
	}
}

// wantNoReply checks that an answer has no bytes.
func wantNoReply(t *testing.T, a api.Answer) {
	t.Helper()
	if s, e := codec.Reply(a); s != "" || e != api.ErrBad {
		t.Fatalf("Reply(%v): %x %v, want ErrBad", a, s, e)
	}
}

// wantNoAnswer checks that bytes are no answer's.
func wantNoAnswer(t *testing.T, s string) {
	t.Helper()
	if a, e := codec.ParseReply(s); a != noAnswer() || e != api.ErrBad {
		t.Fatalf("ParseReply(%x): %v %v, want ErrBad", brief(s), a, e)
	}
}

// wantParsedReply checks that ParseReply answers what the chapter's words tell, and that an answer's bytes are these again.
func wantParsedReply(t *testing.T, s string) api.Errno {
	t.Helper()
	want, e := plainParseReply(s)
	if e != api.OK {
		wantNoAnswer(t, s)
		return e
	}
	wantReply(t, want, s)
	return e
}

// wantFrame checks that bytes have this frame, and that it is split into them.
func wantFrame(t *testing.T, s, want string) {
	t.Helper()
	if f, e := codec.Frame(s); f != want || e != api.OK {
		t.Fatalf("Frame(%x): %x %v, want %x", s, f, e, want)
	}
	wantSplit(t, want, []string{s}, "", api.OK)
}

// wantNoFrame checks that bytes have no frame.
func wantNoFrame(t *testing.T, s string) {
	t.Helper()
	if f, e := codec.Frame(s); f != "" || e != api.ErrBad {
		t.Fatalf("Frame of %d bytes: %x %v, want ErrBad", len(s), brief(f), e)
	}
}

// wantSplit checks what a stream is split into.
func wantSplit(t *testing.T, s string, pieces []string, rest string, e api.Errno) {
	t.Helper()
	l, r, f := codec.Split(s)
	if !slices.Equal(l, pieces) || r != rest || f != e {
		t.Fatalf("Split(%x): %x, %x, %v, want %x, %x, %v", brief(s), l, brief(r), f, pieces, brief(rest), e)
	}
}

// wantSplitAsTold checks that Split answers what the chapter's words tell.
func wantSplitAsTold(t *testing.T, s string) api.Errno {
	t.Helper()
	l, rest, e := plainSplit(s)
	wantSplit(t, s, l, rest, e)
	return e
}

// framed is the frames of pieces, one behind the other, by the chapter's words.
func framed(pieces ...string) string {
	var s strings.Builder
	for _, p := range pieces {
		s.WriteString(length(len(p)) + p)
	}
	return s.String()
}

// length is the two bytes of a length.
func length(n int) string { return string([]byte{byte(n / 256), byte(n % 256)}) }

// long is n bytes, no two neighbours the same.
func long(n int) string {
	b := make([]byte, n)
	for i := range b {
		b[i] = byte(i*7 + 1)
	}
	return string(b)
}

// brief is bytes in a failing test's words.
func brief(s string) string { return s[:min(len(s), 300)] }

// roll answers numbers below n, the same ones each time it is made.
func roll() func(n int) int {
	seed := uint32(1)
	return func(n int) int {
		seed = seed*1664525 + 1013904223
		return int(seed>>8) % n
	}
}
