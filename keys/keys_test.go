package keys_test

import (
	"encoding/binary"
	"math"
	"slices"
	"strings"
	"testing"

	"bazaar/api"
	"bazaar/keys"
)

// kinds is all kinds that places have.
func kinds() []int {
	return []int{api.KeyAccount, api.KeyItem, api.KeyMail, api.KeyListing, api.KeyCount, api.KeyTotal}
}

// noKinds is numbers that are no kinds, those whose low bits are one's among them.
func noKinds() []int {
	return []int{
		0, 7, 8, -1, -2, -6, 'a', 'i', 'm', 's', 'n', 't', 255, 256, 257, 262, 65537,
		1<<32 + 1, 1<<32 + 6, 1<<40 + 3, -1<<32 + 2, math.MinInt + 1, math.MinInt, math.MaxInt,
	}
}

// numbers is numbers of accounts, listings and mails, at the edges and beyond them.
func numbers() []uint32 {
	return []uint32{
		0, 1, 2, 3, 4, 127, 128, 254, 255, 256, 257, 258, 259, 511, 512, 65535, 65536, 65537, 65538, 0x010203,
		999999, 1000000, 1000001, 1000256, 1 << 24, 1<<24 + 1, 1<<24 + 2, 0x01020304,
		1<<30 - 1, 1 << 30, 1<<30 + 1, 1<<31 - 1, 1 << 31, 1<<31 + 1, math.MaxUint32 - 1, math.MaxUint32,
	}
}

// items is items, those at the edges among them.
func items() []uint16 {
	return []uint16{0, 1, 2, 127, 128, 255, 256, 257, 258, 4097, 32767, 32768, 65534, 65535}
}

// places is places of these kinds with each of all those numbers, right and not.
func places(kinds []int) []api.Place {
	var all []api.Place
	for _, kind := range kinds {
		for _, a := range numbers() {
			for _, item := range items() {
				for _, mail := range numbers() {
					all = append(all, api.Place{Kind: kind, A: a, Item: item, Mail: mail})
				}
			}
		}
	}
	return all
}

// plainRight tells what the chapter's table tells, kind by kind.
func plainRight(p api.Place) bool {
	account := p.A >= 1 && p.A <= 1000000
	switch p.Kind {
	case 1:
		return account && p.Item == 0 && p.Mail == 0
	case 2:
		return account && p.Mail == 0
	case 3:
		return account && p.Item == 0 && p.Mail >= 1 && p.Mail <= 1073741824
	case 4:
		return p.A >= 1 && p.A <= 1073741824 && p.Item == 0 && p.Mail == 0
	case 5:
		return (p.A == 1 || p.A == 2) && p.Item == 0 && p.Mail == 0
	case 6:
		return (p.A == 0 || p.A == 1) && p.Mail == 0
	}
	return false
}

// plainKey is a place's key as the table tells it, by the library's means, be the place right or not.
func plainKey(p api.Place) string {
	a := binary.BigEndian.AppendUint32(nil, p.A)
	item := binary.BigEndian.AppendUint16(nil, p.Item)
	mail := binary.BigEndian.AppendUint32(nil, p.Mail)
	switch p.Kind {
	case 1:
		return "\x61" + string(a)
	case 2:
		return "\x69" + string(a) + string(item)
	case 3:
		return "\x6d" + string(a) + string(mail)
	case 4:
		return "\x73" + string(a)
	case 5:
		return "\x6e" + string(a[3:])
	case 6:
		return "\x74" + string(a[3:]) + string(item)
	}
	return ""
}

// rightPlaces is places that are right, each once.
func rightPlaces() []api.Place {
	var all []api.Place
	for _, p := range places(kinds()) {
		if plainRight(p) {
			all = append(all, p)
		}
	}
	return all
}

// wantPlace checks that a text is a place's key, there and back.
func wantPlace(t *testing.T, p api.Place, key string) {
	t.Helper()
	if !keys.Right(p) {
		t.Fatalf("not right: %v", p)
	}
	if s, e := keys.Key(p); s != key || e != api.OK {
		t.Fatalf("Key(%v): %x %v, want %x", p, s, e, key)
	}
	if q, e := keys.Parse(key); q != p || e != api.OK {
		t.Fatalf("Parse(%x): %v %v, want %v", key, q, e, p)
	}
}

// wantNoPlace checks that a place is none.
func wantNoPlace(t *testing.T, p api.Place) {
	t.Helper()
	if keys.Right(p) {
		t.Fatalf("right: %v", p)
	}
	if s, e := keys.Key(p); s != "" || e != api.ErrPlace {
		t.Fatalf("Key(%v): %x %v", p, s, e)
	}
}

// wantNoKey checks that a text is no place's key.
func wantNoKey(t *testing.T, key string) {
	t.Helper()
	if p, e := keys.Parse(key); p != (api.Place{}) || e != api.ErrPlace {
		t.Fatalf("Parse(%x): %v %v", key, p, e)
	}
}

// wantNoBounds checks that a kind and a number have none.
func wantNoBounds(t *testing.T, kind int, a uint32) {
	t.Helper()
	if from, to, e := keys.Of(kind, a); from != "" || to != "" || e != api.ErrPlace {
		t.Fatalf("Of(%d, %d): %x %x %v", kind, a, from, to, e)
	}
}

// bounds is what Of tells, and must not be refused.
func bounds(t *testing.T, kind int, a uint32) (string, string) {
	t.Helper()
	from, to, e := keys.Of(kind, a)
	if e != api.OK {
		t.Fatalf("Of(%d, %d): %v", kind, a, e)
	}
	return from, to
}

// keyOf is a place's key, and must not be refused.
func keyOf(t *testing.T, p api.Place) string {
	t.Helper()
	s, e := keys.Key(p)
	if e != api.OK {
		t.Fatalf("Key(%v): %v", p, e)
	}
	return s
}

// P10.1: Right, Key and Parse.

func TestByHand(t *testing.T) {
	for _, c := range []struct {
		p   api.Place
		key string
	}{
		{api.Place{Kind: 1, A: 1}, "a\x00\x00\x00\x01"},
		{api.Place{Kind: 1, A: 0x010203}, "a\x00\x01\x02\x03"},
		{api.Place{Kind: 1, A: 1000000}, "a\x00\x0f\x42\x40"},
		{api.Place{Kind: 2, A: 1, Item: 258}, "\x69\x00\x00\x00\x01\x01\x02"},
		{api.Place{Kind: 2, A: 1}, "i\x00\x00\x00\x01\x00\x00"},
		{api.Place{Kind: 2, A: 1000000, Item: 65535}, "i\x00\x0f\x42\x40\xff\xff"},
		{api.Place{Kind: 3, A: 1, Mail: 1}, "m\x00\x00\x00\x01\x00\x00\x00\x01"},
		{api.Place{Kind: 3, A: 1000000, Mail: 1 << 30}, "m\x00\x0f\x42\x40\x40\x00\x00\x00"},
		{api.Place{Kind: 3, A: 0x0a0b, Mail: 0x01020304}, "m\x00\x00\x0a\x0b\x01\x02\x03\x04"},
		{api.Place{Kind: 4, A: 1}, "s\x00\x00\x00\x01"},
		{api.Place{Kind: 4, A: 1000001}, "s\x00\x0f\x42\x41"},
		{api.Place{Kind: 4, A: 1 << 30}, "s\x40\x00\x00\x00"},
		{api.Place{Kind: 5, A: 1}, "n\x01"},
		{api.Place{Kind: 5, A: 2}, "n\x02"},
		{api.Place{Kind: 6}, "t\x00\x00\x00"},
		{api.Place{Kind: 6, A: 1}, "t\x01\x00\x00"},
		{api.Place{Kind: 6, A: 1, Item: 0x0102}, "t\x01\x01\x02"},
		{api.Place{Kind: 6, Item: 65535}, "t\x00\xff\xff"},
		{api.Place{Kind: 6, A: 1, Item: 65535}, "t\x01\xff\xff"},
	} {
		wantPlace(t, c.p, c.key)
	}
}

func TestEachEdge(t *testing.T) {
	for _, c := range []struct {
		p  api.Place
		is bool
	}{
		{api.Place{Kind: api.KeyAccount, A: 0}, false},
		{api.Place{Kind: api.KeyAccount, A: 1}, true},
		{api.Place{Kind: api.KeyAccount, A: 1000000}, true},
		{api.Place{Kind: api.KeyAccount, A: 1000001}, false},
		{api.Place{Kind: api.KeyItem, A: 0, Item: 1}, false},
		{api.Place{Kind: api.KeyItem, A: 1, Item: 0}, true},
		{api.Place{Kind: api.KeyItem, A: 1000000, Item: 65535}, true},
		{api.Place{Kind: api.KeyItem, A: 1000001, Item: 1}, false},
		{api.Place{Kind: api.KeyMail, A: 0, Mail: 1}, false},
		{api.Place{Kind: api.KeyMail, A: 1, Mail: 0}, false},
		{api.Place{Kind: api.KeyMail, A: 1, Mail: 1}, true},
		{api.Place{Kind: api.KeyMail, A: 1000000, Mail: 1073741824}, true},
		{api.Place{Kind: api.KeyMail, A: 1000000, Mail: 1073741825}, false},
		{api.Place{Kind: api.KeyMail, A: 1000001, Mail: 1}, false},
		{api.Place{Kind: api.KeyListing, A: 0}, false},
		{api.Place{Kind: api.KeyListing, A: 1}, true},
		{api.Place{Kind: api.KeyListing, A: 1073741824}, true},
		{api.Place{Kind: api.KeyListing, A: 1073741825}, false},
		{api.Place{Kind: api.KeyCount, A: 0}, false},
		{api.Place{Kind: api.KeyCount, A: 1}, true},
		{api.Place{Kind: api.KeyCount, A: 2}, true},
		{api.Place{Kind: api.KeyCount, A: 3}, false},
		{api.Place{Kind: api.KeyCount, A: 257}, false},
		{api.Place{Kind: api.KeyTotal, A: 0}, true},
		{api.Place{Kind: api.KeyTotal, A: 1, Item: 65535}, true},
		{api.Place{Kind: api.KeyTotal, A: 2}, false},
		{api.Place{Kind: api.KeyTotal, A: 256}, false},
		{api.Place{}, false},
		{api.Place{A: 1}, false},
		{api.Place{Kind: 7, A: 1}, false},
		{api.Place{Kind: -1, A: 1}, false},
	} {
		if c.is {
			wantPlace(t, c.p, plainKey(c.p))
		} else {
			wantNoPlace(t, c.p)
		}
	}
}

// A field that the kind does not name must be 0.
func TestFieldsThatAreNotNamed(t *testing.T) {
	for _, kind := range kinds() {
		p := api.Place{Kind: kind, A: 1}
		if kind == api.KeyMail {
			p.Mail = 1
		}
		wantPlace(t, p, plainKey(p))
		for _, n := range []uint32{1, 2, 255, 256, 65535} {
			q := p
			q.Item = uint16(n)
			if kind != api.KeyItem && kind != api.KeyTotal {
				wantNoPlace(t, q)
			}
			q = p
			q.Mail = n
			if kind != api.KeyMail {
				wantNoPlace(t, q)
			}
			q.Item = uint16(n)
			wantNoPlace(t, q)
		}
	}
}

func TestAllPlaces(t *testing.T) {
	for _, p := range places(kinds()) {
		if plainRight(p) {
			wantPlace(t, p, plainKey(p))
			continue
		}
		wantNoPlace(t, p)
	}
}

func TestNoKinds(t *testing.T) {
	for _, p := range places(noKinds()) {
		if p.Item > 1 && p.Mail > 1 {
			continue // The others are enough.
		}
		wantNoPlace(t, p)
	}
}

// Bytes of a place that is not right are no key, unless they are another place's, as its fields that are not named are told by none.
func TestParseOfWrongPlaces(t *testing.T) {
	of := make(map[string]int)
	for _, p := range rightPlaces() {
		of[plainKey(p)]++
	}
	refused := 0
	for _, p := range places(kinds()) {
		if p.Kind >= api.KeyCount && p.A > 255 {
			continue // One byte does not hold it.
		}
		if of[plainKey(p)] == 0 {
			wantNoKey(t, plainKey(p))
			refused++
		}
	}
	if refused == 0 {
		t.Fatal("none")
	}
}

func TestParseRefusesNumbers(t *testing.T) {
	for _, key := range []string{
		"a\x00\x00\x00\x00", "a\x00\x0f\x42\x41", "a\x01\x00\x00\x01", "a\x80\x00\x00\x01", "a\xff\xff\xff\xff",
		"i\x00\x00\x00\x00\x00\x01", "i\x00\x0f\x42\x41\x00\x01", "i\xff\xff\xff\xff\xff\xff",
		"m\x00\x00\x00\x00\x00\x00\x00\x01", "m\x00\x00\x00\x01\x00\x00\x00\x00", "m\x00\x00\x00\x01\x40\x00\x00\x01",
		"m\x00\x0f\x42\x41\x00\x00\x00\x01", "m\x00\x00\x00\x01\xff\xff\xff\xff", "m\x00\x00\x00\x00\x00\x00\x00\x00",
		"s\x00\x00\x00\x00", "s\x40\x00\x00\x01", "s\x80\x00\x00\x00", "s\xff\xff\xff\xff",
		"n\x00", "n\x03", "n\x81", "n\xff",
		"t\x02\x00\x05", "t\x02\x00\x00", "t\x80\x00\x01", "t\xff\xff\xff",
	} {
		wantNoKey(t, key)
	}
}

func TestParseRefusesSizes(t *testing.T) {
	wantNoKey(t, "")
	for _, p := range []api.Place{
		{Kind: 1, A: 1}, {Kind: 1, A: 256}, {Kind: 1, A: 1000000},
		{Kind: 2, A: 1}, {Kind: 2, A: 258, Item: 258}, {Kind: 2, A: 1000000, Item: 65535},
		{Kind: 3, A: 1, Mail: 1}, {Kind: 3, A: 257, Mail: 0x01010101}, {Kind: 3, A: 1000000, Mail: 1 << 30},
		{Kind: 4, A: 1}, {Kind: 4, A: 0x01010101}, {Kind: 4, A: 1 << 30},
		{Kind: 5, A: 1}, {Kind: 5, A: 2}, {Kind: 6}, {Kind: 6, A: 1, Item: 257}, {Kind: 6, A: 1, Item: 65535},
	} {
		key := plainKey(p)
		wantPlace(t, p, key)
		for n := range len(key) {
			wantNoKey(t, key[:n])
			wantNoKey(t, key[n+1:])
		}
		for n := 2; n <= len(key); n++ {
			wantNoKey(t, key[:1]+key[n:])
		}
		for _, more := range []string{"\x00", "\x01", "\xff", "\x00\x00", "\x00\x01", "\x00\x00\x00\x01", strings.Repeat("\x00", 300), key} {
			wantNoKey(t, key+more)
			wantNoKey(t, key[:1]+more+key[1:])
		}
		wantNoKey(t, "\x00"+key)
		wantNoKey(t, strings.ToUpper(key[:1])+key[1:])
	}
}

// Each mark with bytes that another kind's keys would have behind it.
func TestParseOfEachMark(t *testing.T) {
	sizes := map[byte]int{'a': 4, 'i': 6, 'm': 8, 's': 4, 'n': 1, 't': 3}
	for mark := range 256 {
		for size := range 12 {
			tail := make([]byte, size)
			for i := range tail {
				// A small number, whether it has one, two or four bytes.
				if i == 0 && size < 4 || i == 3 || i == 7 {
					tail[i] = 1
				}
			}
			key := string([]byte{byte(mark)}) + string(tail)
			if want, is := sizes[byte(mark)]; !is || want != size {
				wantNoKey(t, key)
				continue
			}
			p, e := keys.Parse(key)
			if e != api.OK || plainKey(p) != key {
				t.Fatalf("Parse(%x): %v %v", key, p, e)
			}
		}
	}
}

// All texts of two bytes at most: two of them are keys.
func TestParseOfShortTexts(t *testing.T) {
	found := 0
	for first := range 256 {
		wantNoKey(t, string([]byte{byte(first)}))
		for second := range 256 {
			key := string([]byte{byte(first), byte(second)})
			if key == "n\x01" || key == "n\x02" {
				wantPlace(t, api.Place{Kind: api.KeyCount, A: uint32(second)}, key)
				found++
				continue
			}
			wantNoKey(t, key)
		}
	}
	if found != 2 {
		t.Fatal(found)
	}
}

// Keys of which one byte is another one: keys of other places, or none.
func TestParseOfChangedKeys(t *testing.T) {
	for _, p := range []api.Place{
		{Kind: 1, A: 1}, {Kind: 1, A: 1000000}, {Kind: 2, A: 1, Item: 258}, {Kind: 2, A: 999999, Item: 65535},
		{Kind: 3, A: 1, Mail: 1}, {Kind: 3, A: 1000000, Mail: 1 << 30}, {Kind: 4, A: 1}, {Kind: 4, A: 1 << 30},
		{Kind: 5, A: 1}, {Kind: 6}, {Kind: 6, A: 1, Item: 65535},
	} {
		for at := range len(plainKey(p)) {
			for b := range 256 {
				key := []byte(plainKey(p))
				key[at] = byte(b)
				q, e := keys.Parse(string(key))
				switch {
				case e == api.OK && plainRight(q) && plainKey(q) == string(key):
				case e == api.ErrPlace && q == (api.Place{}) && !plainIsKey(string(key)):
				default:
					t.Fatalf("Parse(%x): %v %v", key, q, e)
				}
			}
		}
	}
}

// plainIsKey tells whether a text is a key: by its mark and size, and by the numbers' bounds.
func plainIsKey(key string) bool {
	wide := func(at int) uint32 { return binary.BigEndian.Uint32([]byte(key[at:])) }
	is := func(n, most uint32) bool { return n >= 1 && n <= most }
	switch {
	case len(key) == 5 && key[0] == 0x61:
		return is(wide(1), 1000000)
	case len(key) == 7 && key[0] == 0x69:
		return is(wide(1), 1000000)
	case len(key) == 9 && key[0] == 0x6d:
		return is(wide(1), 1000000) && is(wide(5), 1073741824)
	case len(key) == 5 && key[0] == 0x73:
		return is(wide(1), 1073741824)
	case len(key) == 2 && key[0] == 0x6e:
		return key[1] == 1 || key[1] == 2
	case len(key) == 4 && key[0] == 0x74:
		return key[1] <= 1
	}
	return false
}

// All accounts, and what there is a little beyond them.
func TestAllAccounts(t *testing.T) {
	for a := range uint32(1000100) {
		p := api.Place{Kind: api.KeyAccount, A: a}
		if a >= 1 && a <= 1000000 {
			wantPlace(t, p, plainKey(p))
			continue
		}
		wantNoPlace(t, p)
		wantNoKey(t, plainKey(p))
	}
}

// P10.2: Of.

func TestOfByHand(t *testing.T) {
	for _, c := range []struct {
		kind     int
		a        uint32
		from, to string
	}{
		{api.KeyItem, 1, "\x69\x00\x00\x00\x01", "\x69\x00\x00\x00\x02"},
		{api.KeyItem, 255, "i\x00\x00\x00\xff", "i\x00\x00\x01\x00"},
		{api.KeyItem, 65535, "i\x00\x00\xff\xff", "i\x00\x01\x00\x00"},
		{api.KeyItem, 999999, "i\x00\x0f\x42\x3f", "i\x00\x0f\x42\x40"},
		{api.KeyItem, 1000000, "i\x00\x0f\x42\x40", "i\x00\x0f\x42\x41"},
		{api.KeyMail, 1, "\x6d\x00\x00\x00\x01", "\x6d\x00\x00\x00\x02"},
		{api.KeyMail, 256, "m\x00\x00\x01\x00", "m\x00\x00\x01\x01"},
		{api.KeyMail, 1000000, "m\x00\x0f\x42\x40", "m\x00\x0f\x42\x41"},
	} {
		if from, to := bounds(t, c.kind, c.a); from != c.from || to != c.to {
			t.Errorf("Of(%d, %d): %x %x", c.kind, c.a, from, to)
		}
	}
}

func TestOf(t *testing.T) {
	for _, kind := range append(kinds(), noKinds()...) {
		for _, a := range numbers() {
			if kind != api.KeyItem && kind != api.KeyMail || a < 1 || a > 1000000 {
				wantNoBounds(t, kind, a)
				continue
			}
			mark := map[int]string{api.KeyItem: "i", api.KeyMail: "m"}[kind]
			from, to := bounds(t, kind, a)
			if from != mark+string(binary.BigEndian.AppendUint32(nil, a)) || to != mark+string(binary.BigEndian.AppendUint32(nil, a+1)) {
				t.Fatalf("Of(%d, %d): %x %x", kind, a, from, to)
			}
		}
	}
}

// Of all keys just those of the kind and the account are within the bounds.
func TestKeysWithinBounds(t *testing.T) {
	all := rightPlaces()
	texts := make([]string, len(all))
	for i, p := range all {
		texts[i] = keyOf(t, p)
	}
	for _, kind := range []int{api.KeyItem, api.KeyMail} {
		for _, a := range []uint32{1, 2, 255, 256, 257, 65535, 65536, 999999, 1000000} {
			from, to := bounds(t, kind, a)
			within := 0
			for i, p := range all {
				is := p.Kind == kind && p.A == a
				if is != (texts[i] >= from && texts[i] < to) {
					t.Fatalf("Of(%d, %d): %x, of %v", kind, a, texts[i], p)
				}
				if is {
					within++
				}
			}
			if within == 0 {
				t.Fatalf("Of(%d, %d): no key", kind, a)
			}
		}
	}
}

// The bounds of neighbours meet, so that no key is within two, or lies between.
func TestBoundsOfAllAccounts(t *testing.T) {
	for _, kind := range []int{api.KeyItem, api.KeyMail} {
		last := ""
		for a := uint32(1); a <= 1000000; a++ {
			from, to := bounds(t, kind, a)
			if a > 1 && from != last || from >= to {
				t.Fatalf("Of(%d, %d): %x %x, behind %x", kind, a, from, to, last)
			}
			last = to
		}
		wantNoBounds(t, kind, 1000001)
	}
}

// P10.3: one to one, and in order.

func TestOneToOne(t *testing.T) {
	of := make(map[string]api.Place)
	for _, p := range rightPlaces() {
		key := keyOf(t, p)
		if q, is := of[key]; is {
			t.Fatalf("%x: %v and %v", key, p, q)
		}
		of[key] = p
	}
	for key, p := range of {
		if q, e := keys.Parse(key); q != p || e != api.OK {
			t.Fatalf("Parse(%x): %v %v, want %v", key, q, e, p)
		}
	}
}

// All items of an account, and of what is added up: their keys rise, and are those of one kind and account.
func TestAllItemsInOrder(t *testing.T) {
	for _, p := range []api.Place{{Kind: api.KeyItem, A: 1}, {Kind: api.KeyItem, A: 1000000}, {Kind: api.KeyTotal}, {Kind: api.KeyTotal, A: 1}} {
		last := ""
		for item := range 1 << 16 {
			p.Item = uint16(item)
			wantPlace(t, p, plainKey(p))
			key := keyOf(t, p)
			if key <= last {
				t.Fatalf("%v: %x, behind %x", p, key, last)
			}
			last = key
		}
	}
}

func TestMailsInOrder(t *testing.T) {
	var mails []uint32
	for bits := range 31 {
		for _, more := range []int{-2, -1, 0, 1, 2, 77} {
			if n := 1<<bits + more; n >= 1 && n <= 1<<30 {
				mails = append(mails, uint32(n))
			}
		}
	}
	for n := uint32(3); n < 1<<30; n += 999983 {
		mails = append(mails, n)
	}
	slices.Sort(mails)
	mails = slices.Compact(mails)
	for _, a := range []uint32{1, 255, 256, 1000000} {
		last := ""
		for _, n := range mails {
			p := api.Place{Kind: api.KeyMail, A: a, Mail: n}
			wantPlace(t, p, plainKey(p))
			key := keyOf(t, p)
			if key <= last {
				t.Fatalf("%v: %x, behind %x", p, key, last)
			}
			last = key
		}
	}
}

// Sorted by their keys, places stand kind by kind in the order of their marks, and within one by A, and then by item or mail.
func TestOrderOfAll(t *testing.T) {
	all := rightPlaces()
	slices.SortFunc(all, func(p, q api.Place) int { return strings.Compare(keyOf(t, p), keyOf(t, q)) })
	turn := map[int]int{api.KeyAccount: 1, api.KeyItem: 2, api.KeyMail: 3, api.KeyCount: 4, api.KeyListing: 5, api.KeyTotal: 6}
	for i, q := range all[1:] {
		p := all[i]
		rising := []bool{turn[p.Kind] < turn[q.Kind], p.A < q.A, p.Item < q.Item, p.Mail < q.Mail}
		falling := []bool{turn[p.Kind] > turn[q.Kind], p.A > q.A, p.Item > q.Item, p.Mail > q.Mail}
		if up := slices.Index(rising, true); up < 0 || slices.Contains(falling[:up], true) {
			t.Fatalf("%v ahead of %v", p, q)
		}
	}
}

// Calls keep nothing: what they answer does not hang on those ahead of them.
func TestNothingIsKept(t *testing.T) {
	p := api.Place{Kind: api.KeyMail, A: 5, Mail: 9}
	for range 3 {
		wantPlace(t, p, "m\x00\x00\x00\x05\x00\x00\x00\x09")
		wantNoPlace(t, api.Place{Kind: api.KeyMail, A: 5, Item: 1, Mail: 9})
		wantNoKey(t, "m\x00\x00\x00\x05\x00\x00\x00")
		wantNoBounds(t, api.KeyListing, 5)
		if from, to := bounds(t, api.KeyMail, 5); from != "m\x00\x00\x00\x05" || to != "m\x00\x00\x00\x06" {
			t.Fatalf("%x %x", from, to)
		}
	}
}

// FuzzParse holds texts against the table.
func FuzzParse(f *testing.F) {
	for _, p := range []api.Place{{Kind: 1, A: 1}, {Kind: 2, A: 1, Item: 258}, {Kind: 3, A: 1, Mail: 1}, {Kind: 4, A: 1}, {Kind: 5, A: 1}, {Kind: 6}} {
		f.Add(plainKey(p))
	}
	f.Fuzz(func(t *testing.T, key string) {
		if !plainIsKey(key) {
			wantNoKey(t, key)
			return
		}
		p, e := keys.Parse(key)
		if e != api.OK || !plainRight(p) || plainKey(p) != key {
			t.Fatalf("Parse(%x): %v %v", key, p, e)
		}
	})
}
