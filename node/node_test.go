package node_test

import (
	"encoding/binary"
	"fmt"
	"math"
	"reflect"
	"slices"
	"strings"
	"testing"

	"bazaar/api"
	"bazaar/node"
)

// dice is a fixed row of numbers.
type dice uint32

// roll is the next one, below n.
func (d *dice) roll(n int) int {
	*d = *d*1664525 + 1013904223
	return int(uint64(*d) * uint64(n) >> 32)
}

// text is a text of n bytes that rises with i, as long as i is below 256 to the n.
func text(n, i int) string {
	b := make([]byte, n)
	for at := n - 1; at >= 0; at-- {
		b[at] = byte(i)
		i >>= 8
	}
	return string(b)
}

// some is n bytes.
func some(n int) string { return strings.Repeat("v", n) }

// leaf is a leaf of these keys and values, turn by turn.
func leaf(all ...string) api.Node {
	var n api.Node
	for i := 0; i < len(all); i += 2 {
		n.Pairs = append(n.Pairs, api.Pair{K: all[i], V: all[i+1]})
	}
	return n
}

// wide is a leaf of n pairs, whose keys and values have so many bytes.
func wide(n, key, value int) api.Node {
	var l api.Node
	for i := range n {
		l.Pairs = append(l.Pairs, api.Pair{K: text(key, i+1), V: some(value)})
	}
	return l
}

// branch is a branch of these Keys, and one kid more.
func branch(keys ...string) api.Node {
	n := api.Node{Keys: keys}
	for i := range len(keys) + 1 {
		n.Kids = append(n.Kids, uint32(2+i*37%16000))
	}
	return n
}

// high is a branch of n kids, whose Keys have so many bytes.
func high(n, key int) api.Node {
	var keys []string
	for i := range n - 1 {
		keys = append(keys, text(key, i+1))
	}
	return branch(keys...)
}

// kids is a branch of one kid, or more.
func kids(all ...uint32) api.Node {
	n := api.Node{Kids: all}
	for i := range len(all) - 1 {
		n.Keys = append(n.Keys, text(2, i+1))
	}
	return n
}

// rolled is a leaf, or a branch, of so many parts, of many lengths.
func rolled(d *dice, kind, parts int) api.Node {
	var n api.Node
	for i := range parts {
		key := text(2, i*3+d.roll(3)+1) + some(d.roll(23))
		if kind == api.PageLeaf {
			n.Pairs = append(n.Pairs, api.Pair{K: key, V: some(d.roll(61))})
			continue
		}
		if i > 0 {
			n.Keys = append(n.Keys, key)
		}
		n.Kids = append(n.Kids, uint32(2+d.roll(16382)))
	}
	return n
}

// rightLeaves is leaves that are right, those at the edges among them.
func rightLeaves() []api.Node {
	all := []api.Node{
		{},
		{Pairs: []api.Pair{}, Keys: []string{}, Kids: []uint32{}},
		leaf("a", ""),
		leaf("a", "xy"),
		leaf("\x00", "\x00"),
		leaf("\xff", "\xff"),
		leaf(text(24, 5), some(60)),
		leaf("a", "1", "bb", "", "c", "333"),
		leaf("a", "1", "a\x00", "2", "aa", "3", "b", "4"),
		// Keys rise byte by byte, not by letters or by lengths.
		leaf("B", "", "a", "", "\x7f", "", "\x80", "", "é", "", "\xff", "", "\xff\x00", ""),
		leaf("10", "", "2", "", "a long key", "", "b", ""),
		wide(2, 1, 0), wide(78, 1, 0), wide(79, 1, 0), wide(254, 2, 0), wide(255, 1, 0), wide(255, 24, 60), wide(3, 24, 60),
		// 237 bytes, and 238.
		leaf("a", some(60), "b", some(60), "c", some(60), "d", some(44)),
		leaf("a", some(60), "b", some(60), "c", some(60), "d", some(45)),
		leaf(text(24, 1), some(60), text(24, 2), some(60), text(24, 3), some(38)),
		leaf(text(24, 1), some(60), text(24, 2), some(60), text(24, 3), some(39)),
	}
	d := dice(3)
	for i := range 60 {
		all = append(all, rolled(&d, api.PageLeaf, 1+i%13))
	}
	return all
}

// rightBranches is branches that are right, those at the edges among them.
func rightBranches() []api.Node {
	all := []api.Node{
		kids(2), kids(3), kids(255), kids(256), kids(258), kids(16382), kids(16383),
		{Pairs: []api.Pair{}, Keys: []string{}, Kids: []uint32{2}},
		kids(2, 16383), kids(16383, 2), kids(2, 2, 2), kids(5, 4, 3, 2),
		branch("b", "d", "f", "h"), branch(text(24, 1)), branch("\x00"), branch("\xff"), branch("k", "k\x00", "kk"),
		branch("B", "a", "\x7f", "\x80", "é", "\xff"), branch("10", "2"),
		high(2, 1), high(3, 1), high(4, 1), high(5, 24), high(254, 2), high(255, 1), high(255, 24),
		// 237 bytes, and 238.
		branch(text(24, 1), text(24, 2), text(24, 3), text(24, 4), text(24, 5), text(24, 6), text(24, 7), text(24, 8)),
		branch(text(24, 1), text(24, 2), text(24, 3), text(24, 4), text(24, 5), text(24, 6), text(24, 7), text(19, 8), "z"),
	}
	d := dice(4)
	for i := range 60 {
		all = append(all, rolled(&d, api.PageBranch, 1+i%13))
	}
	return all
}

// rightNodes is all of these.
func rightNodes() []api.Node { return append(rightLeaves(), rightBranches()...) }

// wrongNodes is nodes that are not right.
func wrongNodes() []api.Node {
	all := []api.Node{
		// Keys of 0 bytes and of 25, values of 61.
		leaf("", ""), leaf("", "v"), leaf("", "", "a", ""), leaf("a", "", "", ""), leaf(some(25), ""), leaf(some(256), ""), leaf(some(257), ""),
		leaf("a", some(61)), leaf("a", some(256)), leaf("a", some(257)), leaf("a", "1", "b", some(61)), leaf("a", some(61), "b", "1"), leaf("a", "", some(25), ""),
		branch(""), branch("", "a"), branch("a", ""), branch(some(25)), branch("a", some(25)), branch(some(256)), branch(some(257)),
		// Keys that do not rise, and two of one key.
		leaf("b", "", "a", ""), leaf("a", "", "a", ""), leaf("a", "1", "a", "2"), leaf("a", "", "b", "", "b", ""), leaf("a", "", "c", "", "b", ""), leaf("aa", "", "a", ""),
		leaf("a", "", "B", ""), leaf("\x80", "", "\x7f", ""), leaf("2", "", "10", ""), leaf("b", "", "c", "", "a", ""),
		branch("b", "a"), branch("a", "a"), branch("a", "b", "b"), branch("a", "c", "b"), branch("aa", "a"), branch("\x80", "\x7f"), branch("b", "c", "a"),
		// Too many parts.
		wide(256, 2, 0), wide(257, 2, 60), wide(511, 2, 0), wide(512, 2, 1), wide(60000, 2, 0), high(256, 2), high(257, 2), high(511, 2), high(512, 24),
		// Keys as many as Kids, two fewer, and others.
		{Keys: []string{"a"}, Kids: []uint32{2}}, {Keys: []string{"a", "b"}, Kids: []uint32{2, 3}}, {Keys: []string{"a", "b"}, Kids: []uint32{2}},
		{Kids: []uint32{2, 3}}, {Keys: []string{"a"}, Kids: []uint32{2, 3, 4}}, {Kids: []uint32{2, 3, 4, 5}},
		{Keys: []string{"a"}}, {Keys: []string{""}}, {Keys: []string{"a", "b"}},
	}
	for _, kid := range []uint32{0, 1, 16384, 16385, 65536, 65538, 1 << 31, math.MaxUint32} {
		all = append(all, kids(kid), kids(kid, 2), kids(2, kid), kids(2, kid, 3))
	}
	// Both pairs and what a branch has.
	for _, n := range []api.Node{kids(2), branch("b"), branch("a", "b"), {Keys: []string{"a"}}, {Kids: []uint32{2, 3}}} {
		for _, l := range []api.Node{leaf("a", "1"), leaf("a", "1", "b", "2"), leaf("", "")} {
			n.Pairs = l.Pairs
			all = append(all, n)
		}
	}
	return all
}

// clone is the same node in other memory, without spare room.
func clone(n api.Node) api.Node {
	return api.Node{Pairs: slices.Clip(slices.Clone(n.Pairs)), Keys: slices.Clip(slices.Clone(n.Keys)), Kids: slices.Clip(slices.Clone(n.Kids))}
}

// same tells whether two nodes are one.
func same(a, b api.Node) bool {
	return slices.Equal(a.Pairs, b.Pairs) && slices.Equal(a.Keys, b.Keys) && slices.Equal(a.Kids, b.Kids)
}

// brief is a node in a failing test's words.
func brief(n api.Node) string {
	s := fmt.Sprintf("{%d pairs %q, %d keys %q, %d kids %v}", len(n.Pairs), n.Pairs, len(n.Keys), n.Keys, len(n.Kids), n.Kids)
	return s[:min(len(s), 600)]
}

// plain is a node's kind and bytes as the chapter tells them, by the library's means, be the node right or not, if it has no Key too many.
func plain(n api.Node) (int, string) {
	if len(n.Kids) == 0 {
		b := []byte{byte(len(n.Pairs))}
		for _, p := range n.Pairs {
			b = append(append(b, byte(len(p.K))), p.K...)
			b = append(append(b, byte(len(p.V))), p.V...)
		}
		return 1, string(b)
	}
	b := binary.BigEndian.AppendUint32([]byte{byte(len(n.Kids))}, n.Kids[0])
	for i, key := range n.Keys {
		b = append(append(b, byte(len(key))), key...)
		b = binary.BigEndian.AppendUint32(b, n.Kids[i+1])
	}
	return 2, string(b)
}

// size is how many bytes a right node has.
func size(n api.Node) int {
	_, s := plain(n)
	return len(s)
}

// P6.1: Right.

func TestRight(t *testing.T) {
	for _, n := range rightNodes() {
		if !node.Right(n) {
			t.Errorf("not right: %s", brief(n))
		}
	}
	for _, n := range wrongNodes() {
		if node.Right(n) {
			t.Errorf("right: %s", brief(n))
		}
	}
}

func TestRightOfAllNumbersOfParts(t *testing.T) {
	for n := range 600 {
		if node.Right(wide(n, 2, 0)) != (n <= 255) {
			t.Errorf("a leaf of %d pairs", n)
		}
		if n > 0 && node.Right(high(n, 2)) != (n <= 255) {
			t.Errorf("a branch of %d kids", n)
		}
		for keys := range 6 {
			b := api.Node{Keys: high(keys+1, 2).Keys, Kids: slices.Repeat([]uint32{2}, n)}
			want := n == keys+1 || n == 0 && keys == 0
			if node.Right(b) != want {
				t.Errorf("%d kids, %d Keys: not %v", n, keys, want)
			}
		}
	}
}

func TestRightOfAllLengths(t *testing.T) {
	for n := range 600 {
		if node.Right(leaf(some(n), "")) != (n >= 1 && n <= 24) || node.Right(branch(some(n))) != (n >= 1 && n <= 24) {
			t.Errorf("a key of %d bytes", n)
		}
		if node.Right(leaf("a", some(n))) != (n <= 60) {
			t.Errorf("a value of %d bytes", n)
		}
	}
}

func TestRightOfAllKids(t *testing.T) {
	for kid := range uint32(70000) {
		if node.Right(kids(kid)) != (kid >= 2 && kid <= 16383) {
			t.Fatalf("the kid %d", kid)
		}
	}
}

// A single wrong part is found wherever it stands.
func TestRightOfOneWrongPartOfMany(t *testing.T) {
	for _, n := range []int{2, 3, 10, 255} {
		for at := range n {
			l := wide(n, 2, 1)
			for _, p := range []api.Pair{{K: "", V: ""}, {K: some(25)}, {K: l.Pairs[at].K, V: some(61)}, l.Pairs[(at+1)%n]} {
				wrong := clone(l)
				wrong.Pairs[at] = p
				if node.Right(wrong) {
					t.Errorf("right, of %d pairs, with %q at %d", n, p, at)
				}
			}
			for _, kid := range []uint32{1, 16384} {
				wrong := high(n, 2)
				wrong.Kids[at] = kid
				if node.Right(wrong) {
					t.Errorf("right, of %d kids, with %d at %d", n, kid, at)
				}
			}
			for _, key := range []string{"", some(25), text(2, (at+1)%(n-1)+1)} {
				wrong := high(n, 2)
				if at == n-1 || n == 2 && key == wrong.Keys[0] {
					continue
				}
				wrong.Keys[at] = key
				if node.Right(wrong) {
					t.Errorf("right, of %d kids, with Key %q at %d", n, key, at)
				}
			}
		}
	}
}

// P6.1: Size.

func TestSize(t *testing.T) {
	for _, n := range rightNodes() {
		if got := node.Size(n); got != size(n) {
			t.Errorf("Size(%s): %d, want %d", brief(n), got, size(n))
		}
	}
	for _, n := range wrongNodes() {
		if got := node.Size(n); got != 0 {
			t.Errorf("Size(%s): %d", brief(n), got)
		}
	}
}

func TestSizeByHand(t *testing.T) {
	for _, c := range []struct {
		n    api.Node
		want int
	}{
		{api.Node{}, 1}, {leaf("a", "xy"), 6}, {kids(2), 5}, {branch("ab"), 12},
		{wide(255, 24, 60), 1 + 255*86}, {high(255, 24), 5 + 254*29},
	} {
		if got := node.Size(c.n); got != c.want {
			t.Errorf("Size(%s): %d, want %d", brief(c.n), got, c.want)
		}
	}
}

// P6.1: Encode.

func TestEncodeByHand(t *testing.T) {
	for _, c := range []struct {
		n    api.Node
		kind int
		want string
	}{
		{leaf("a", "xy"), api.PageLeaf, "\x01\x01a\x02xy"},
		{api.Node{}, api.PageLeaf, "\x00"},
		{leaf("ab", "", "b", "c"), api.PageLeaf, "\x02\x02ab\x00\x01b\x01c"},
		{kids(2), api.PageBranch, "\x01\x00\x00\x00\x02"},
		{api.Node{Keys: []string{"k", "kk"}, Kids: []uint32{16383, 258, 2}}, api.PageBranch, "\x03\x00\x00\x3f\xff\x01k\x00\x00\x01\x02\x02kk\x00\x00\x00\x02"},
	} {
		if k, s, e := node.Encode(c.n); k != c.kind || s != c.want || e != api.OK {
			t.Errorf("Encode(%s): %d %x %v", brief(c.n), k, s, e)
		}
	}
}

func TestEncode(t *testing.T) {
	fit, not := 0, 0
	for _, n := range rightNodes() {
		kind, want := plain(n)
		e := api.OK
		fit++
		if len(want) > 237 {
			kind, want, e = 0, "", api.ErrNode
			not++
		}
		if k, s, f := node.Encode(n); k != kind || s != want || f != e {
			t.Errorf("Encode(%s): %d %x %v, want %d %x %v", brief(n), k, s, f, kind, want, e)
		}
	}
	if fit-not < 50 || not < 20 {
		t.Errorf("%d of %d nodes do not fit", not, fit)
	}
}

func TestEncodeOfWhatJustFits(t *testing.T) {
	for _, c := range []struct {
		n    api.Node
		size int
	}{
		{leaf("a", some(60), "b", some(60), "c", some(60), "d", some(44)), 237},
		{leaf("a", some(60), "b", some(60), "c", some(60), "d", some(45)), 238},
		{branch(text(24, 1), text(24, 2), text(24, 3), text(24, 4), text(24, 5), text(24, 6), text(24, 7), text(24, 8)), 237},
		{branch(text(24, 1), text(24, 2), text(24, 3), text(24, 4), text(24, 5), text(24, 6), text(24, 7), text(19, 8), "z"), 238},
	} {
		kind, want := plain(c.n)
		if node.Size(c.n) != c.size || len(want) != c.size {
			t.Fatalf("%d and %d bytes, want %d", node.Size(c.n), len(want), c.size)
		}
		k, s, e := node.Encode(c.n)
		if c.size == 237 && (k != kind || s != want || e != api.OK) {
			t.Errorf("of 237 bytes: %d %x %v", k, s, e)
		}
		if c.size == 238 && (k != 0 || s != "" || e != api.ErrNode) {
			t.Errorf("of 238 bytes: %d %x %v", k, s, e)
		}
	}
}

func TestEncodeRefuses(t *testing.T) {
	for _, n := range wrongNodes() {
		if k, s, e := node.Encode(n); k != 0 || s != "" || e != api.ErrNode {
			t.Errorf("Encode(%s): %d %x %v", brief(n), k, s, e)
		}
	}
}

// P6.1: Decode.

// wantDecoded checks that bytes are a node's.
func wantDecoded(t *testing.T, kind int, body string, want api.Node) {
	t.Helper()
	if n, e := node.Decode(kind, body); !same(n, want) || e != api.OK {
		t.Fatalf("Decode(%d, %x): %s %v, want %s", kind, body, brief(n), e, brief(want))
	}
}

// wantNone checks that bytes are no node's.
func wantNone(t *testing.T, kind int, body string) {
	t.Helper()
	if n, e := node.Decode(kind, body); !same(n, api.Node{}) || e != api.ErrNode {
		t.Fatalf("Decode(%d, %x): %s %v", kind, body, brief(n), e)
	}
}

// parsed is the node of that kind that has these bytes, read as the chapter tells them, and whether there is one.
func parsed(kind int, body string) (api.Node, bool) {
	var n api.Node
	b := []byte(body)
	if len(b) == 0 || len(b) > 237 || kind != 1 && kind != 2 {
		return n, false
	}
	ok, last, parts := true, "", int(b[0])
	b = b[1:]
	text := func(least, most int) string {
		if len(b) == 0 || int(b[0]) < least || int(b[0]) > most || len(b) < 1+int(b[0]) {
			ok = false
			return ""
		}
		s := string(b[1 : 1+b[0]])
		b = b[1+b[0]:]
		return s
	}
	kid := func() uint32 {
		if len(b) < 4 {
			ok = false
			return 0
		}
		id := binary.BigEndian.Uint32(b)
		b = b[4:]
		ok = ok && id >= 2 && id < 16384
		return id
	}
	for i := 0; i < parts && ok; i++ {
		key := ""
		if kind == 1 || i > 0 {
			key = text(1, 24)
			ok = ok && key > last
			last = key
		}
		switch {
		case kind == 1:
			n.Pairs = append(n.Pairs, api.Pair{K: key, V: text(0, 60)})
		case i == 0:
			n.Kids = append(n.Kids, kid())
		default:
			n.Keys, n.Kids = append(n.Keys, key), append(n.Kids, kid())
		}
	}
	if !ok || len(b) > 0 || kind == 2 && parts == 0 {
		return api.Node{}, false
	}
	return n, true
}

// wantAsParsed checks what bytes are told to be, and tells whether they are a node.
func wantAsParsed(t *testing.T, kind int, body string) bool {
	t.Helper()
	n, ok := parsed(kind, body)
	if ok {
		wantDecoded(t, kind, body, n)
	} else {
		wantNone(t, kind, body)
	}
	return ok
}

func TestDecode(t *testing.T) {
	for _, n := range rightNodes() {
		kind, s := plain(n)
		if len(s) <= 237 {
			wantDecoded(t, kind, s, n)
		} else {
			wantNone(t, kind, s)
		}
	}
}

func TestDecodeRefusesOtherKinds(t *testing.T) {
	for _, n := range rightNodes() {
		kind, s := plain(n)
		for _, other := range []int{0, 1, 2, 3, 4, -1, -2, 257, 258, 1<<32 + 1, 1<<32 + 2, math.MinInt, math.MaxInt} {
			if other != kind {
				wantNone(t, other, s)
			}
		}
	}
	for _, kind := range []int{0, 3, -1, 4} {
		for _, s := range []string{"", "\x00", "\x01", "\x01\x00\x00\x00\x02"} {
			wantNone(t, kind, s)
		}
	}
}

func TestDecodeRefusesWrongSizes(t *testing.T) {
	for _, n := range rightNodes() {
		kind, s := plain(n)
		if len(s) > 237 {
			continue
		}
		for size := range len(s) {
			wantNone(t, kind, s[:size])
		}
		for _, more := range []string{"\x00", "\x01", "x", "\xff", "\x00\x00\x00\x02", "\x01z\x00", "\x01z\x00\x00\x00\x02", s, some(237), strings.Repeat("\x00", 237)} {
			wantNone(t, kind, s+more)
		}
		if len(s) < 237 {
			wantNone(t, kind, s+strings.Repeat("\x00", 237-len(s)))
		}
	}
	wantNone(t, api.PageLeaf, "")
	wantNone(t, api.PageBranch, "")
	wantNone(t, api.PageBranch, "\x00")
	wantDecoded(t, api.PageLeaf, "\x00", api.Node{})
	wantNone(t, api.PageLeaf, strings.Repeat("\x00", 1<<20))
	wantNone(t, api.PageBranch, strings.Repeat("\xff", 1<<20))
}

// Bytes that are laid out well are no node's all the same, if the node is not right.
func TestDecodeRefusesWrongNodes(t *testing.T) {
	for _, n := range wrongNodes() {
		if len(n.Pairs) > 0 && len(n.Kids) > 0 || len(n.Kids) != len(n.Keys)+1 && len(n.Kids)+len(n.Keys) > 0 {
			continue
		}
		// Of 256 parts, or bytes of a text, and more, the number that is told wraps round.
		kind, s := plain(n)
		wantNone(t, kind, s)
	}
	for _, s := range []string{"\x01\x00\x00", "\x01\x19" + some(25) + "\x00", "\x01\x01a\x3d" + some(61), "\x02\x01a\x00\x01a\x00", "\x02\x01b\x00\x01a\x00"} {
		wantNone(t, api.PageLeaf, s)
	}
	for _, s := range []string{"\x01\x00\x00\x00\x01", "\x01\x00\x00\x40\x00", "\x01\x00\x01\x00\x02", "\x01\x01\x00\x00\x02", "\x02\x00\x00\x00\x02\x00\x00\x00\x00\x03", "\x02\x00\x00\x00\x02\x19" + some(25) + "\x00\x00\x00\x03"} {
		wantNone(t, api.PageBranch, s)
	}
}

// All short bodies of a few bytes.
func TestDecodeOfAllShortBodies(t *testing.T) {
	letters := []byte{0, 1, 2, 3, 'b'}
	bodies, nodes := []string{""}, 0
	for at := 0; at < len(bodies); at++ {
		body := bodies[at]
		for _, kind := range []int{1, 2} {
			if wantAsParsed(t, kind, body) {
				nodes++
			}
		}
		if len(body) < 7 {
			for _, c := range letters {
				bodies = append(bodies, body+string([]byte{c}))
			}
		}
	}
	if nodes < 100 {
		t.Errorf("%d nodes", nodes)
	}
}

// One byte that is another one tells another node, or none.
func TestDecodeOfChangedBytes(t *testing.T) {
	for i, n := range rightNodes() {
		kind, s := plain(n)
		if len(s) > 237 {
			continue
		}
		for at := range s {
			for c := i % 5; c < 256; c += 5 {
				changed := s[:at] + string([]byte{byte(c)}) + s[at+1:]
				wantAsParsed(t, kind, changed)
				if m, e := node.Decode(kind, changed); changed != s && e == api.OK && same(m, n) {
					t.Fatalf("%x and %x are both %s", s, changed, brief(n))
				}
			}
			wantAsParsed(t, kind, s[:at]+s[at+1:])
			wantAsParsed(t, kind, s[:at]+"\x00"+s[at:])
		}
	}
}

// P6.1: Place.

// place is a key's place as the chapter tells it.
func place(n api.Node, key string) int {
	at := 0
	for _, p := range n.Pairs {
		if p.K < key {
			at++
		}
	}
	for _, k := range n.Keys {
		if k <= key {
			at++
		}
	}
	return at
}

// keysAbout is keys of a node, keys beside them, and keys that no pair has.
func keysAbout(n api.Node) []string {
	all := []string{"", "\x00", "a", "b", "bb", "bc", "k", "z", "\xff", some(24), some(25), strings.Repeat("\xff", 24), strings.Repeat("\xff", 300)}
	keys := slices.Clone(n.Keys)
	for _, p := range n.Pairs {
		keys = append(keys, p.K)
	}
	for i := 0; i < len(keys); i += 1 + len(keys)/20 {
		k := keys[i]
		if k != "" {
			all = append(all, k, k+"\x00", k[:len(k)-1], k[:len(k)-1]+string([]byte{k[len(k)-1] - 1}), k[:len(k)-1]+string([]byte{k[len(k)-1] + 1}))
		}
	}
	return all
}

func TestPlace(t *testing.T) {
	for _, n := range rightNodes() {
		for _, key := range keysAbout(n) {
			if got := node.Place(n, key); got != place(n, key) {
				t.Fatalf("Place(%s, %q): %d, want %d", brief(n), key, got, place(n, key))
			}
		}
	}
	for _, n := range wrongNodes() {
		for _, key := range keysAbout(n) {
			if got := node.Place(n, key); got != 0 {
				t.Fatalf("Place(%s, %q): %d", brief(n), key, got)
			}
		}
	}
}

func TestPlaceByHand(t *testing.T) {
	b, l := branch("b", "d", "f"), leaf("b", "1", "d", "2", "f", "3")
	for i, c := range []struct {
		key      string
		inBranch int
		inLeaf   int
	}{{"", 0, 0}, {"a", 0, 0}, {"az", 0, 0}, {"b", 1, 0}, {"b\x00", 1, 1}, {"c", 1, 1}, {"d", 2, 1}, {"e", 2, 2}, {"f", 3, 2}, {"ff", 3, 3}, {"z", 3, 3}} {
		if node.Place(b, c.key) != c.inBranch || node.Place(l, c.key) != c.inLeaf {
			t.Errorf("%d: %q: %d %d", i, c.key, node.Place(b, c.key), node.Place(l, c.key))
		}
	}
	if node.Place(api.Node{}, "a") != 0 || node.Place(kids(2), "a") != 0 {
		t.Error("without keys")
	}
}

// P6.2: Put and Delete.

// wantPut checks what Put answers, and that the node is what it was.
func wantPut(t *testing.T, n api.Node, p api.Pair, want api.Node, e api.Errno) {
	t.Helper()
	was := clone(n)
	if m, f := node.Put(n, p); !same(m, want) || f != e {
		t.Fatalf("Put(%s, %q): %s %v, want %s %v", brief(was), p, brief(m), f, brief(want), e)
	}
	if !same(n, was) {
		t.Fatalf("Put(%s, %q) changed it: %s", brief(was), p, brief(n))
	}
}

// wantDeleted checks what Delete answers, and that the node is what it was.
func wantDeleted(t *testing.T, n api.Node, key string, want api.Node, there bool, e api.Errno) {
	t.Helper()
	was := clone(n)
	if m, is, f := node.Delete(n, key); !same(m, want) || is != there || f != e {
		t.Fatalf("Delete(%s, %q): %s %v %v, want %s %v %v", brief(was), key, brief(m), is, f, brief(want), there, e)
	}
	if !same(n, was) {
		t.Fatalf("Delete(%s, %q) changed it: %s", brief(was), key, brief(n))
	}
}

// without is a leaf without the pair of a key.
func without(n api.Node, key string) api.Node {
	var l api.Node
	for _, p := range n.Pairs {
		if p.K != key {
			l.Pairs = append(l.Pairs, p)
		}
	}
	return l
}

// with is a leaf with a pair instead of that of its key.
func with(n api.Node, p api.Pair) api.Node {
	l := without(n, p.K)
	l.Pairs = append(l.Pairs, p)
	slices.SortFunc(l.Pairs, func(a, b api.Pair) int { return strings.Compare(a.K, b.K) })
	return l
}

func TestPutByHand(t *testing.T) {
	l := leaf("b", "1", "d", "2")
	wantPut(t, api.Node{}, api.Pair{K: "b", V: "1"}, leaf("b", "1"), api.OK)
	wantPut(t, l, api.Pair{K: "a", V: "x"}, leaf("a", "x", "b", "1", "d", "2"), api.OK)
	wantPut(t, l, api.Pair{K: "b", V: "x"}, leaf("b", "x", "d", "2"), api.OK)
	wantPut(t, l, api.Pair{K: "c", V: ""}, leaf("b", "1", "c", "", "d", "2"), api.OK)
	wantPut(t, l, api.Pair{K: "d", V: ""}, leaf("b", "1", "d", ""), api.OK)
	wantPut(t, l, api.Pair{K: "e", V: "x"}, leaf("b", "1", "d", "2", "e", "x"), api.OK)
	wantPut(t, l, api.Pair{K: "b", V: "1"}, l, api.OK)
}

func TestPut(t *testing.T) {
	for _, n := range rightLeaves() {
		for _, key := range keysAbout(n) {
			for _, value := range []string{"", "new", some(60), some(61), some(300)} {
				p := api.Pair{K: key, V: value}
				want := with(n, p)
				if len(key) < 1 || len(key) > 24 || len(value) > 60 || len(want.Pairs) > 255 {
					wantPut(t, n, p, api.Node{}, api.ErrNode)
				} else {
					wantPut(t, n, p, want, api.OK)
				}
			}
		}
	}
}

func TestPutUpTo255Pairs(t *testing.T) {
	n := api.Node{}
	for i := range 255 {
		p := api.Pair{K: text(2, i*i%257*257+i), V: some(i % 61)}
		want := with(n, p)
		wantPut(t, n, p, want, api.OK)
		n = want
	}
	if len(n.Pairs) != 255 {
		t.Fatalf("%d pairs", len(n.Pairs))
	}
	for _, key := range []string{"\x00", text(2, 1) + "x", "\xff\xff\xff"} {
		wantPut(t, n, api.Pair{K: key}, api.Node{}, api.ErrNode)
	}
	// One that is there is put nevertheless.
	for _, at := range []int{0, 100, 254} {
		p := api.Pair{K: n.Pairs[at].K, V: "there"}
		wantPut(t, n, p, with(n, p), api.OK)
	}
}

func TestPutRefuses(t *testing.T) {
	for _, p := range []api.Pair{{K: "a", V: "1"}, {K: "zz", V: ""}, {}, {K: "\xff\xff"}, {K: text(2, 1)}} {
		for _, n := range append(wrongNodes(), rightBranches()...) {
			wantPut(t, n, p, api.Node{}, api.ErrNode)
		}
		for _, n := range rightLeaves() {
			p := p
			p.V = some(61)
			wantPut(t, n, p, api.Node{}, api.ErrNode)
		}
	}
}

func TestDeleteByHand(t *testing.T) {
	l := leaf("b", "1", "d", "2", "f", "3")
	wantDeleted(t, l, "b", leaf("d", "2", "f", "3"), true, api.OK)
	wantDeleted(t, l, "d", leaf("b", "1", "f", "3"), true, api.OK)
	wantDeleted(t, l, "f", leaf("b", "1", "d", "2"), true, api.OK)
	for _, key := range []string{"", "a", "c", "e", "z", "bb", some(25)} {
		wantDeleted(t, l, key, l, false, api.OK)
	}
	wantDeleted(t, leaf("b", "1"), "b", api.Node{}, true, api.OK)
	wantDeleted(t, api.Node{}, "b", api.Node{}, false, api.OK)
	wantDeleted(t, api.Node{}, "", api.Node{}, false, api.OK)
}

func TestDelete(t *testing.T) {
	for _, n := range rightLeaves() {
		for _, key := range keysAbout(n) {
			want := without(n, key)
			wantDeleted(t, n, key, want, len(want.Pairs) < len(n.Pairs), api.OK)
		}
	}
}

func TestDeleteRefuses(t *testing.T) {
	for _, key := range []string{"", "a", "b", "zz", text(2, 1), some(25)} {
		for _, n := range append(wrongNodes(), rightBranches()...) {
			wantDeleted(t, n, key, api.Node{}, false, api.ErrNode)
		}
	}
}

// P6.2: Split.

// cutAt is both sides of a node that is cut ahead of a part, and the key of the right one.
func cutAt(n api.Node, at int) (api.Node, string, api.Node) {
	if len(n.Kids) == 0 {
		return api.Node{Pairs: n.Pairs[:at]}, n.Pairs[at].K, api.Node{Pairs: n.Pairs[at:]}
	}
	return api.Node{Keys: n.Keys[:at-1], Kids: n.Kids[:at]}, n.Keys[at-1], api.Node{Keys: n.Keys[at:], Kids: n.Kids[at:]}
}

// cuts is the places where a right node may be cut.
func cuts(n api.Node) []int {
	var all []int
	least := 1
	if len(n.Kids) > 0 {
		least = 2
	}
	for at := least; at <= len(n.Pairs)+len(n.Kids)-least; at++ {
		all = append(all, at)
	}
	return all
}

// split is where a right node is split, and whether another cut has a larger half of the same bytes.
func split(n api.Node) (int, bool) {
	best, fewest, twice := 0, math.MaxInt, false
	for _, at := range cuts(n) {
		a, _, b := cutAt(n, at)
		larger := max(size(a), size(b))
		if larger == fewest {
			twice = true
		}
		if larger < fewest {
			best, fewest, twice = at, larger, false
		}
	}
	return best, twice
}

// wantSplit checks what Split answers of a right node, and that it is what it was.
func wantSplit(t *testing.T, n api.Node, at int) {
	t.Helper()
	was := clone(n)
	a, key, b, e := node.Split(n)
	wantA, wantKey, wantB := cutAt(was, at)
	if !same(a, wantA) || key != wantKey || !same(b, wantB) || e != api.OK {
		t.Fatalf("Split(%s): %s %q %s %v, want the cut at %d", brief(was), brief(a), key, brief(b), e, at)
	}
	if !same(n, was) {
		t.Fatalf("Split(%s) changed it: %s", brief(was), brief(n))
	}
}

// wantWhole checks that Split refuses a node.
func wantWhole(t *testing.T, n api.Node) {
	t.Helper()
	if a, key, b, e := node.Split(n); !same(a, api.Node{}) || key != "" || !same(b, api.Node{}) || e != api.ErrNode {
		t.Fatalf("Split(%s): %s %q %s %v", brief(n), brief(a), key, brief(b), e)
	}
}

func TestSplitByHand(t *testing.T) {
	for _, c := range []struct {
		n  api.Node
		at int
	}{
		{leaf("a", "", "b", ""), 1},
		{leaf("a", some(60), "b", ""), 1},
		{leaf("a", "", "b", some(60)), 1},
		// 4 and 7, or 7 and 4 bytes: the first one.
		{leaf("a", "", "b", "", "c", ""), 1},
		{leaf("a", "", "b", "", "c", "", "d", ""), 2},
		// Two cuts whose larger halves have 24 bytes: 12 and 24, or 24 and 12.
		{leaf("a", some(8), "b", some(9), "c", some(8)), 1},
		// 11 and 14, or 14 and 11.
		{leaf("a", some(7), "b", "", "c", some(7)), 1},
		// The large one alone.
		{leaf("a", some(60), "b", "1", "c", "1", "d", "1"), 1},
		{leaf("a", "1", "b", "1", "c", "1", "d", some(60)), 3},
		{leaf("a", "1", "b", some(60), "c", "1", "d", "1"), 2},
		{leaf("a", "1", "b", "1", "c", some(60), "d", "1"), 2},
		// Four kids are cut in the middle, whatever their Keys are; five where the larger half is smaller.
		{branch("b", "d", "f"), 2},
		{branch(text(24, 1), "d", "f"), 2},
		{branch("b", "d", some(24)), 2},
		{branch("b", "d", "f", "h"), 2},
		{branch(text(24, 1), "d", "f", "h"), 2},
		{branch("b", "d", "f", some(24)), 3},
		// The Key between is in neither: 17 and 17 bytes on its sides.
		{branch("b", "d", some(24), "w", "y"), 3},
		{branch("b", "bb", "d"+some(23), "e"), 3},
	} {
		wantSplit(t, c.n, c.at)
	}
}

func TestSplit(t *testing.T) {
	ties, whole := 0, 0
	check := func(n api.Node) {
		t.Helper()
		if len(cuts(n)) == 0 {
			whole++
			wantWhole(t, n)
			return
		}
		at, twice := split(n)
		if twice {
			ties++
		}
		wantSplit(t, n, at)
	}
	for _, n := range rightNodes() {
		check(n)
	}
	d := dice(8)
	for i := range 2000 {
		check(rolled(&d, api.PageLeaf, 1+i%20))
		check(rolled(&d, api.PageBranch, 1+i%20))
	}
	for n := 1; n < 256; n++ {
		check(wide(n, 3, 5))
		check(high(n, 3))
	}
	if ties < 100 || whole < 10 {
		t.Errorf("%d ties, %d that are whole", ties, whole)
	}
}

// Of all cuts whose larger halves have the same bytes it is the first, on either side of the middle.
func TestSplitOfTies(t *testing.T) {
	for value := range 61 {
		for most := range 61 {
			n := leaf("a", some(value), "b", some(most), "c", some(value))
			if _, twice := split(n); !twice {
				t.Fatal("no tie")
			}
			wantSplit(t, n, 1)
		}
	}
	for edge := 1; edge <= 24; edge++ {
		for middle := 1; middle <= 24; middle++ {
			n := branch("a"+some(edge-1), "b"+some(middle-1), "c"+some(middle-1), "d"+some(edge-1))
			if _, twice := split(n); !twice {
				t.Fatal("no tie")
			}
			wantSplit(t, n, 2)
		}
	}
}

func TestSplitRefuses(t *testing.T) {
	for _, n := range wrongNodes() {
		wantWhole(t, n)
	}
	for _, n := range []api.Node{{}, leaf("a", ""), leaf(text(24, 1), some(60)), kids(2), kids(2, 3), kids(2, 3, 4), high(3, 24)} {
		wantWhole(t, n)
	}
}

// P6.2: Join.

// wantJoined checks what Join answers, and that both are what they were.
func wantJoined(t *testing.T, a api.Node, key string, b, want api.Node, e api.Errno) {
	t.Helper()
	wasA, wasB := clone(a), clone(b)
	if n, f := node.Join(a, key, b); !same(n, want) || f != e {
		t.Fatalf("Join(%s, %q, %s): %s %v, want %s %v", brief(wasA), key, brief(wasB), brief(n), f, brief(want), e)
	}
	if !same(a, wasA) || !same(b, wasB) {
		t.Fatalf("Join(%s, %q, %s) changed one: %s, %s", brief(wasA), key, brief(wasB), brief(a), brief(b))
	}
}

func TestJoinOfLeaves(t *testing.T) {
	a, b := leaf("a", "1", "b", "2"), leaf("c", "3")
	for _, key := range []string{"", "a", "c", "b\x00", "z", some(25), some(300)} {
		wantJoined(t, a, key, b, leaf("a", "1", "b", "2", "c", "3"), api.OK)
		wantJoined(t, a, key, api.Node{}, a, api.OK)
		wantJoined(t, api.Node{}, key, b, b, api.OK)
		wantJoined(t, api.Node{}, key, api.Node{}, api.Node{}, api.OK)
		// Their keys do not rise together.
		wantJoined(t, b, key, a, api.Node{}, api.ErrNode)
		wantJoined(t, a, key, a, api.Node{}, api.ErrNode)
		wantJoined(t, a, key, leaf("b", "3"), api.Node{}, api.ErrNode)
		wantJoined(t, a, key, leaf("aa", "3"), api.Node{}, api.ErrNode)
	}
}

func TestJoinOfBranches(t *testing.T) {
	a, b := branch("b", "d"), branch("h")
	all := func(key string) api.Node {
		return api.Node{Keys: []string{"b", "d", key, "h"}, Kids: slices.Concat(a.Kids, b.Kids)}
	}
	for _, key := range []string{"d\x00", "e", "f", "gz", "e" + some(23)} {
		wantJoined(t, a, key, b, all(key), api.OK)
	}
	for _, key := range []string{"", "a", "b", "c", "d", "h", "i", "\xff", "e" + some(24), "e" + some(255), "e" + some(256)} {
		wantJoined(t, a, key, b, api.Node{}, api.ErrNode)
	}
	wantJoined(t, b, "e", a, api.Node{}, api.ErrNode)
	wantJoined(t, a, "e", a, api.Node{}, api.ErrNode)
	for _, key := range []string{"a", "z", some(24)} {
		wantJoined(t, kids(2), key, kids(2), api.Node{Keys: []string{key}, Kids: []uint32{2, 2}}, api.OK)
	}
	for _, key := range []string{"", some(25)} {
		wantJoined(t, kids(2), key, kids(3), api.Node{}, api.ErrNode)
	}
}

func TestJoinOfTwoKinds(t *testing.T) {
	for _, l := range rightLeaves() {
		for _, b := range []api.Node{kids(2), branch("m"), high(255, 2)} {
			wantJoined(t, l, "m", b, api.Node{}, api.ErrNode)
			wantJoined(t, b, "m", l, api.Node{}, api.ErrNode)
		}
	}
	for _, b := range rightBranches() {
		wantJoined(t, api.Node{}, "m", b, api.Node{}, api.ErrNode)
		wantJoined(t, b, "m", api.Node{}, api.Node{}, api.ErrNode)
	}
}

func TestJoinUpTo255Parts(t *testing.T) {
	l, b := wide(256, 2, 1), high(256, 2)
	for at := 1; at < 255; at++ {
		left, key, right := cutAt(l, at)
		wantJoined(t, left, key, right, api.Node{}, api.ErrNode)
		right.Pairs = right.Pairs[:255-at]
		wantJoined(t, left, key, right, api.Node{Pairs: l.Pairs[:255]}, api.OK)
		left, key, right = cutAt(b, at)
		wantJoined(t, left, key, right, api.Node{}, api.ErrNode)
		right.Keys, right.Kids = right.Keys[:254-at], right.Kids[:255-at]
		wantJoined(t, left, key, right, api.Node{Keys: b.Keys[:254], Kids: b.Kids[:255]}, api.OK)
	}
}

// What comes of it may be right though one of both is not.
func TestJoinRefuses(t *testing.T) {
	right := append([]api.Node{{}, leaf("a", "1"), leaf("zz", "1"), kids(2), branch("m"), branch("zz")}, rightNodes()[:20]...)
	for _, wrong := range wrongNodes() {
		for _, key := range []string{"", "a", "m", "\xff"} {
			for _, n := range right {
				wantJoined(t, wrong, key, n, api.Node{}, api.ErrNode)
				wantJoined(t, n, key, wrong, api.Node{}, api.ErrNode)
			}
			wantJoined(t, wrong, key, wrong, api.Node{}, api.ErrNode)
		}
	}
	// Keys and Kids that would do together.
	wantJoined(t, api.Node{Keys: []string{"a"}, Kids: []uint32{2}}, "b", api.Node{Kids: []uint32{3, 4}}, api.Node{}, api.ErrNode)
	wantJoined(t, api.Node{Kids: []uint32{2, 3}}, "b", api.Node{Keys: []string{"c"}, Kids: []uint32{4}}, api.Node{}, api.ErrNode)
}

// R3: what is answered shares no list, and no spare room, with what was handed in, nor two lists of an answer any.

// roomy is the same node, with room behind its lists that is not empty, and all the memory of these.
func roomy(n api.Node) (api.Node, api.Node) {
	all := api.Node{
		Pairs: slices.Concat(n.Pairs, leaf("room", "1", "room", "2", "room", "3").Pairs),
		Keys:  slices.Concat(n.Keys, []string{"room", "room", "room"}),
		Kids:  slices.Concat(n.Kids, []uint32{91, 92, 93}),
	}
	return api.Node{Pairs: all.Pairs[:len(n.Pairs)], Keys: all.Keys[:len(n.Keys)], Kids: all.Kids[:len(n.Kids)]}, all
}

// fill writes junk into a node's lists, and into the room behind them.
func fill(n api.Node) {
	for i := range n.Pairs[:cap(n.Pairs)] {
		n.Pairs[:cap(n.Pairs)][i] = api.Pair{K: "junk", V: "junk"}
	}
	for i := range n.Keys[:cap(n.Keys)] {
		n.Keys[:cap(n.Keys)][i] = "junk"
	}
	for i := range n.Kids[:cap(n.Kids)] {
		n.Kids[:cap(n.Kids)][i] = 77
	}
}

// wantApart checks that what a call answers shares no memory with what it is handed, nor with another answer.
func wantApart(t *testing.T, a, b api.Node, call func(a, b api.Node) []api.Node) {
	t.Helper()
	a, allA := roomy(a)
	b, allB := roomy(b)
	wasA, wasB := clone(allA), clone(allB)
	first, second := call(a, b), call(a, b)
	want := []api.Node{}
	for _, n := range first {
		want = append(want, clone(n))
	}
	check := func(what string) {
		t.Helper()
		for i, n := range first {
			if !same(n, want[i]) {
				t.Fatalf("%s, %s: answer %d shares memory: %s", brief(a), what, i, brief(n))
			}
		}
		if !same(allA, wasA) || !same(allB, wasB) {
			t.Fatalf("%s is changed, or its room: %s", brief(wasA), what)
		}
	}
	check("called")
	for _, n := range second {
		fill(n)
	}
	check("another answer filled")
	for i, n := range first {
		fill(n)
		want[i] = clone(n)
		check("one list of the answer filled")
	}
	fill(allA)
	fill(allB)
	wasA, wasB = clone(allA), clone(allB)
	check("what was handed in filled")
}

func TestAnswersShareNoList(t *testing.T) {
	for _, n := range append(rightNodes(), wrongNodes()...) {
		keys := keysAbout(n)
		for i, key := range keys {
			if len(keys) > 40 && i%7 != 0 {
				continue
			}
			wantApart(t, n, api.Node{}, func(a, b api.Node) []api.Node {
				m, _ := node.Put(a, api.Pair{K: key, V: "v"})
				return []api.Node{m}
			})
			wantApart(t, n, api.Node{}, func(a, b api.Node) []api.Node {
				m, _, _ := node.Delete(a, key)
				return []api.Node{m}
			})
		}
		wantApart(t, n, api.Node{}, func(a, b api.Node) []api.Node {
			l, _, r, _ := node.Split(a)
			return []api.Node{l, r}
		})
		for _, other := range []api.Node{{}, leaf("\xff\xff\xff", "1"), kids(2), branch("\xff\xff\xff")} {
			join := func(a, b api.Node) []api.Node {
				m, _ := node.Join(a, "\xff\xff", b)
				return []api.Node{m}
			}
			wantApart(t, n, other, join)
			wantApart(t, other, n, join)
		}
		wantApart(t, n, api.Node{}, func(a, b api.Node) []api.Node {
			node.Right(a)
			node.Size(a)
			node.Place(a, "m")
			kind, s, _ := node.Encode(a)
			m, _ := node.Decode(kind, s)
			return []api.Node{m}
		})
	}
}

// P6.3.

func TestNodesAndBytesAreOneToOne(t *testing.T) {
	type bytes struct {
		kind int
		s    string
	}
	seen := map[bytes]api.Node{}
	nodes := rightNodes()
	d := dice(12)
	for i := range 3000 {
		nodes = append(nodes, rolled(&d, 1+i%2, 1+i%7))
	}
	for _, n := range nodes {
		kind, s, e := node.Encode(n)
		if e != api.OK {
			continue
		}
		wantDecoded(t, kind, s, n)
		if m, ok := seen[bytes{kind, s}]; ok && !same(m, n) {
			t.Fatalf("%s and %s have the same bytes", brief(n), brief(m))
		}
		seen[bytes{kind, s}] = n
	}
	if len(seen) < 2000 {
		t.Errorf("%d bodies", len(seen))
	}
}

func TestWhatIsSplitIsJoinedAgain(t *testing.T) {
	nodes := rightNodes()
	d := dice(21)
	for i := range 1000 {
		nodes = append(nodes, rolled(&d, 1+i%2, 2+i%60))
	}
	for _, n := range nodes {
		a, key, b, e := node.Split(n)
		if e != api.OK {
			continue
		}
		if !node.Right(a) || !node.Right(b) {
			t.Fatalf("%s is split into %s and %s", brief(n), brief(a), brief(b))
		}
		wantJoined(t, a, key, b, n, api.OK)
	}
}

// wantFit checks that a node is split into two that fit.
func wantFit(t *testing.T, n api.Node) {
	t.Helper()
	a, _, b, e := node.Split(n)
	if e != api.OK || size(a) > 237 || size(b) > 237 {
		t.Fatalf("%d bytes, %s: split into %d and %d, %v", size(n), brief(n), size(a), size(b), e)
	}
	for _, half := range []api.Node{a, b} {
		if _, _, e := node.Encode(half); e != api.OK {
			t.Fatalf("%s does not fit: %v", brief(half), e)
		}
	}
}

// grown is a leaf, or a branch, of just that many bytes, and whether the dice made one.
func grown(d *dice, kind, bytes int) (api.Node, bool) {
	var n api.Node
	if kind == api.PageBranch {
		n = kids(2)
	}
	for i := 1; size(n) < bytes; i++ {
		left := bytes - size(n)
		key, value := 1+d.roll(24), d.roll(61)
		if d.roll(3) == 0 {
			key, value = 24, 60
		}
		if kind == api.PageBranch {
			key = min(key, left-5)
		} else {
			key = min(key, left-2)
			value = min(value, left-2-key)
		}
		if key < 1 || i > 255 {
			return n, false
		}
		if kind == api.PageBranch {
			n.Keys, n.Kids = append(n.Keys, text(1, i)+some(key-1)), append(n.Kids, uint32(i+2))
		} else {
			n.Pairs = append(n.Pairs, api.Pair{K: text(1, i) + some(key-1), V: some(value)})
		}
	}
	return n, size(n) == bytes
}

func TestNodesThatDoNotFitAreSplitIntoTwoThatDo(t *testing.T) {
	d := dice(30)
	for _, kind := range []int{api.PageLeaf, api.PageBranch} {
		for bytes := 238; bytes <= 237+86; bytes++ {
			made := 0
			for range 400 {
				if n, ok := grown(&d, kind, bytes); ok && node.Right(n) {
					made++
					wantFit(t, n)
				}
			}
			if made < 40 {
				t.Errorf("%d nodes of kind %d and %d bytes", made, kind, bytes)
			}
		}
	}
}

// The greatest pair is put into all leaves that just fit, in all places of it.
func TestALeafThatFitsWithThePairThatIsPut(t *testing.T) {
	d := dice(31)
	for range 500 {
		n, ok := grown(&d, api.PageLeaf, 237)
		if !ok {
			continue
		}
		for i := range len(n.Pairs) + 1 {
			// Each key begins with its number, from 1 on, and goes on with v.
			m, e := node.Put(n, api.Pair{K: text(1, i) + strings.Repeat("w", 23), V: some(60)})
			if e != api.OK || node.Size(m) != 237+86 {
				t.Fatalf("%d bytes, %v", node.Size(m), e)
			}
			wantFit(t, m)
		}
	}
}

// Pairs are put and deleted in a long run, beside a map.
func TestALongRun(t *testing.T) {
	d, n, all := dice(40), api.Node{}, map[string]string{}
	for range 8000 {
		key, value := text(1, d.roll(120))+some(d.roll(3)), some(d.roll(61))
		if d.roll(5) < 2 {
			m, is, e := node.Delete(n, key)
			_, was := all[key]
			delete(all, key)
			if is != was || e != api.OK {
				t.Fatalf("Delete(%q): %v %v", key, is, e)
			}
			n = m
		} else {
			_, was := all[key]
			m, e := node.Put(n, api.Pair{K: key, V: value})
			if full := len(all) == 255 && !was; full != (e == api.ErrNode) {
				t.Fatalf("Put(%q) of %d: %v", key, len(all), e)
			}
			if e == api.OK {
				n, all[key] = m, value
			}
		}
		if len(n.Pairs) != len(all) || !node.Right(n) {
			t.Fatalf("%d pairs, want %d", len(n.Pairs), len(all))
		}
		for i, p := range n.Pairs {
			if all[p.K] != p.V || i%16 == 0 && node.Place(n, p.K) != i {
				t.Fatalf("%q, want %q", p, all[p.K])
			}
		}
	}
}

// R2, R3: fields that are not of a kind are empty, and nil and empty lists are one.
func TestEmptyLists(t *testing.T) {
	l := api.Node{Pairs: leaf("a", "1", "b", "2").Pairs, Keys: []string{}, Kids: []uint32{}}
	b := api.Node{Pairs: []api.Pair{}, Keys: branch("b", "d", "f").Keys, Kids: branch("b", "d", "f").Kids}
	empty := api.Node{Pairs: []api.Pair{}, Keys: []string{}, Kids: []uint32{}}
	wantPut(t, l, api.Pair{K: "c", V: "3"}, leaf("a", "1", "b", "2", "c", "3"), api.OK)
	wantPut(t, empty, api.Pair{K: "c", V: "3"}, leaf("c", "3"), api.OK)
	wantDeleted(t, l, "a", leaf("b", "2"), true, api.OK)
	wantDeleted(t, empty, "a", api.Node{}, false, api.OK)
	wantSplit(t, l, 1)
	wantSplit(t, b, 2)
	wantWhole(t, empty)
	wantJoined(t, empty, "", l, l, api.OK)
	wantJoined(t, empty, "", empty, api.Node{}, api.OK)
	if k, s, e := node.Encode(empty); k != api.PageLeaf || s != "\x00" || e != api.OK {
		t.Errorf("%d %x %v", k, s, e)
	}
	if k, s, e := node.Encode(b); k != api.PageBranch || len(s) != 23 || e != api.OK {
		t.Errorf("%d %x %v", k, s, e)
	}
	for _, n := range []api.Node{l, b, empty} {
		if !node.Right(n) {
			t.Errorf("not right: %s", brief(n))
		}
	}
}

// The same arguments are answered the same, however often.
func TestAnswersAreTheSame(t *testing.T) {
	answers := func(n api.Node) []any {
		k, s, e := node.Encode(n)
		a, key, b, f := node.Split(n)
		p, g := node.Put(n, api.Pair{K: "m", V: "n"})
		d, is, h := node.Delete(n, "a")
		j, i := node.Join(n, "\xff\xff", n)
		return []any{node.Right(n), node.Size(n), k, s, e, a, key, b, f, p, g, d, is, h, j, i, node.Place(n, "m")}
	}
	for _, n := range append(rightNodes(), wrongNodes()...) {
		if a, b := answers(n), answers(n); !reflect.DeepEqual(a, b) {
			t.Fatalf("%s: %v and %v", brief(n), a, b)
		}
	}
}
