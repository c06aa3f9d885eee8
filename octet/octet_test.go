package octet_test

import (
	"bytes"
	"math"
	"strings"
	"testing"

	"spandrel/api"
	"spandrel/octet"
)

var widths = []int{1, 2, 4}

// noWidths are the neighbours of the widths, numbers whose lowest byte is a width, and the least and greatest ones.
var noWidths = []int{math.MinInt, -4, -2, -1, 0, 3, 5, 6, 8, 257, 258, 260, math.MaxInt}

// edges are the numbers around the least and greatest ones of each width, with and without a sign.
func edges() []uint32 {
	var out []uint32
	for _, bit := range []int{0, 7, 8, 15, 16, 24, 31} {
		for _, off := range []uint32{0, 1, 2} {
			n := uint32(1) << bit
			out = append(out, n-off, n+off, -n-off, -n+off)
		}
	}
	return append(out, 0, 258, 0x01020304, 0xfffefdfc, 0x89abcdef)
}

// roomy is a list of those bytes with marked room behind them.
func roomy(s string, room int) []byte {
	b := append([]byte(s), bytes.Repeat([]byte{0xee}, room)...)
	return b[:len(s):len(b)]
}

// memory is a list with its spare room.
func memory(b []byte) []byte {
	return b[:cap(b)]
}

// shares tells whether writing to the memory of one list is seen in that of the other.
func shares(a, b []byte) bool {
	ofA, ofB := bytes.Clone(memory(a)), bytes.Clone(memory(b))
	for i := range memory(a) {
		memory(a)[i] ^= 0xff
	}
	seen := !bytes.Equal(memory(b), ofB)
	copy(memory(a), ofA)
	return seen
}

// P1.1

func TestPutLaysTheLowestByteFirst(t *testing.T) {
	for _, c := range []struct {
		b     string
		n     uint32
		width int
		want  string
	}{
		{"", 258, 2, "\x02\x01"},
		{"", 258, 1, "\x02"},
		{"", 258, 4, "\x02\x01\x00\x00"},
		{"", 0, 1, "\x00"},
		{"", 0, 2, "\x00\x00"},
		{"", 0, 4, "\x00\x00\x00\x00"},
		{"", 255, 1, "\xff"},
		{"", 256, 1, "\x00"},
		{"", 65535, 2, "\xff\xff"},
		{"", 65536, 2, "\x00\x00"},
		{"", 0x01020304, 4, "\x04\x03\x02\x01"},
		{"", 0x01020304, 2, "\x04\x03"},
		{"", 0x01020304, 1, "\x04"},
		{"", math.MaxUint32, 4, "\xff\xff\xff\xff"},
		{"", math.MaxUint32 - 1, 4, "\xfe\xff\xff\xff"},
		{"", 1 << 31, 4, "\x00\x00\x00\x80"},
		{"xy", 0x0a0b0c0d, 4, "xy\x0d\x0c\x0b\x0a"},
		{"\x00", 7, 1, "\x00\x07"},
	} {
		if got := octet.Put([]byte(c.b), c.n, c.width); string(got) != c.want {
			t.Errorf("Put(%q, %d, %d): %q, not %q", c.b, c.n, c.width, got, c.want)
		}
	}
}

func TestPutOfNilIsPutOfEmpty(t *testing.T) {
	for _, width := range append(noWidths, widths...) {
		ofNil, ofEmpty := octet.Put(nil, 0x01020304, width), octet.Put([]byte{}, 0x01020304, width)
		if !bytes.Equal(ofNil, ofEmpty) {
			t.Errorf("width %d: %v of nil, %v of the empty list", width, ofNil, ofEmpty)
		}
	}
}

func TestPutOfAnotherWidthIsTheListInNewMemory(t *testing.T) {
	for _, width := range noWidths {
		for _, s := range []string{"", "a", "abc"} {
			for _, room := range []int{0, 1, 9} {
				b := roomy(s, room)
				got := octet.Put(b, 0x01020304, width)
				if string(got) != s {
					t.Errorf("Put(%q, .., %d): %q", s, width, got)
				}
				if shares(b, got) {
					t.Errorf("Put(%q, .., %d): the answer shares memory with what was given", s, width)
				}
			}
		}
	}
}

func TestPutTextLaysTheLengthAndTheBytes(t *testing.T) {
	for _, c := range []struct{ b, s, want string }{
		{"", "", "\x00\x00"},
		{"", "ab", "\x02\x00ab"},
		{"x", "", "x\x00\x00"},
		{"x", "ab", "x\x02\x00ab"},
		{"", "\x00\xff", "\x02\x00\x00\xff"},
		{"", "é", "\x02\x00\xc3\xa9"},
		{"", strings.Repeat("z", 258), "\x02\x01" + strings.Repeat("z", 258)},
	} {
		if got := octet.PutText([]byte(c.b), c.s); string(got) != c.want {
			t.Errorf("PutText(%q, %q): %q", c.b, c.s, got)
		}
	}
	if got := octet.PutText(nil, ""); !bytes.Equal(got, []byte{0, 0}) {
		t.Errorf("PutText(nil, nothing): %v", got)
	}
}

func TestPutTextTellsTheLengthModulo65536(t *testing.T) {
	for _, c := range []struct {
		size    int
		low, up byte
	}{{65535, 255, 255}, {65536, 0, 0}, {65537, 1, 0}, {3*65536 + 258, 2, 1}} {
		s := strings.Repeat("q", c.size)
		got := octet.PutText([]byte("x"), s)
		if want := "x" + string([]byte{c.low, c.up}) + s; string(got) != want {
			t.Errorf("PutText of %d bytes: %d bytes, the first ones %v", c.size, len(got), got[:3])
		}
	}
}

// P1.2

func TestGetReadsTheLowestByteFirst(t *testing.T) {
	b := []byte{2, 1, 0, 0x80, 0xff}
	for _, c := range []struct {
		at, width int
		want      uint32
	}{
		{0, 1, 2}, {1, 1, 1}, {2, 1, 0}, {3, 1, 0x80}, {4, 1, 0xff},
		{0, 2, 258}, {1, 2, 1}, {2, 2, 0x8000}, {3, 2, 0xff80},
		{0, 4, 0x80000102}, {1, 4, 0xff800001},
	} {
		if got, why := octet.Get(b, c.at, c.width); got != c.want || why != api.OK {
			t.Errorf("Get at %d, width %d: %d, %v", c.at, c.width, got, why)
		}
	}
}

func TestGetRefuses(t *testing.T) {
	for _, c := range []struct {
		size, at, width int
		want            api.Errno
	}{
		{2, 1, 2, api.ErrEnd}, {2, 3, 2, api.ErrArg},
		{2, 2, 1, api.ErrEnd}, {2, 2, 2, api.ErrEnd}, {2, 2, 4, api.ErrEnd}, {2, 0, 4, api.ErrEnd},
		{5, 2, 4, api.ErrEnd}, {5, 4, 2, api.ErrEnd}, {5, 5, 1, api.ErrEnd},
		{5, 6, 1, api.ErrArg}, {5, 6, 4, api.ErrArg}, {5, -1, 1, api.ErrArg}, {5, -1, 4, api.ErrArg}, {5, -5, 1, api.ErrArg},
		{5, math.MaxInt, 4, api.ErrArg}, {5, math.MaxInt - 3, 4, api.ErrArg}, {5, math.MinInt, 1, api.ErrArg},
		{0, 0, 1, api.ErrEnd}, {0, 0, 2, api.ErrEnd}, {0, 0, 4, api.ErrEnd}, {0, 1, 1, api.ErrArg}, {0, -1, 1, api.ErrArg},
	} {
		b := bytes.Repeat([]byte{0xab}, c.size)
		if got, why := octet.Get(b, c.at, c.width); got != 0 || why != c.want {
			t.Errorf("Get of %d bytes at %d, width %d: %d, %v", c.size, c.at, c.width, got, why)
		}
	}
	if got, why := octet.Get(nil, 0, 1); got != 0 || why != api.ErrEnd {
		t.Errorf("Get of nil: %d, %v", got, why)
	}
}

func TestGetOfAnotherWidthIsErrArgWhereverItIs(t *testing.T) {
	b := []byte{1, 2, 3, 4, 5, 6, 7, 8, 9}
	for _, width := range noWidths {
		for _, at := range []int{math.MinInt, -1, 0, 1, 8, 9, 10, math.MaxInt} {
			if got, why := octet.Get(b, at, width); got != 0 || why != api.ErrArg {
				t.Errorf("Get at %d, width %d: %d, %v", at, width, got, why)
			}
		}
	}
}

func TestGetReadsNoSpareRoom(t *testing.T) {
	b := roomy("abc", 9)
	for _, width := range widths {
		if got, why := octet.Get(b, len(b), width); got != 0 || why != api.ErrEnd {
			t.Errorf("Get at the end, width %d: %d, %v", width, got, why)
		}
		if got, why := octet.Get(b, len(b)+1, width); got != 0 || why != api.ErrArg {
			t.Errorf("Get past the end, width %d: %d, %v", width, got, why)
		}
	}
	text := roomy("\x03\x00ab", 9)
	if s, to, why := octet.GetText(text, 0, 9); s != "" || to != 0 || why != api.ErrEnd {
		t.Errorf("GetText whose last byte is spare room: %q, %d, %v", s, to, why)
	}
}

func TestGetText(t *testing.T) {
	two := "\x02\x00ab"
	for _, c := range []struct {
		b        string
		at, most int
		s        string
		to       int
		why      api.Errno
	}{
		{two, 0, 2, "ab", 4, api.OK},
		{two, 0, math.MaxInt, "ab", 4, api.OK},
		{"xyz" + two + "c", 3, 2, "ab", 7, api.OK},
		{"\x00\x00", 0, 0, "", 2, api.OK},
		{"\x00\x00", 0, 9, "", 2, api.OK},
		{"x\x00\x00y", 1, 0, "", 3, api.OK},
		{"\x03\x00\x00\xff\x80", 0, 3, "\x00\xff\x80", 5, api.OK},

		{two, 0, 1, "", 0, api.ErrLong},
		{two, 0, 0, "", 0, api.ErrLong},
		{two, 0, -1, "", 0, api.ErrLong},
		{two, 0, math.MinInt, "", 0, api.ErrLong},
		{"\x00\x00", 0, -1, "", 0, api.ErrLong},

		{"\x02\x00a", 0, 2, "", 0, api.ErrEnd},
		{"\x02\x00", 0, 2, "", 0, api.ErrEnd},
		{"\xff\xffab", 0, 65535, "", 0, api.ErrEnd},
		{"\x02", 0, 2, "", 0, api.ErrEnd},
		{"", 0, 2, "", 0, api.ErrEnd},
		{two, 3, 2, "", 0, api.ErrEnd},
		{two, 4, 2, "", 0, api.ErrEnd},

		{two, 5, 2, "", 0, api.ErrArg},
		{two, -1, 2, "", 0, api.ErrArg},
		{two, math.MaxInt, 2, "", 0, api.ErrArg},
		{two, math.MinInt, 2, "", 0, api.ErrArg},
	} {
		s, to, why := octet.GetText([]byte(c.b), c.at, c.most)
		if s != c.s || to != c.to || why != c.why {
			t.Errorf("GetText(%q, %d, %d): %q, %d, %v", c.b, c.at, c.most, s, to, why)
		}
	}
	if s, to, why := octet.GetText(nil, 0, 0); s != "" || to != 0 || why != api.ErrEnd {
		t.Errorf("GetText of nil: %q, %d, %v", s, to, why)
	}
}

func TestGetTextRefusesInOneOrder(t *testing.T) {
	for _, c := range []struct {
		name     string
		b        string
		at, most int
		want     api.Errno
	}{
		{"too long ahead of cut short", "\x03\x00a", 0, 2, api.ErrLong},
		{"a length cut short ahead of too long", "\x03", 0, -1, api.ErrEnd},
		{"a bad place ahead of too long", "\x03\x00", 3, -1, api.ErrArg},
	} {
		if s, to, why := octet.GetText([]byte(c.b), c.at, c.most); s != "" || to != 0 || why != c.want {
			t.Errorf("%s: %q, %d, %v", c.name, s, to, why)
		}
	}
}

func TestGetTextTakesMostAndRefusesOneMore(t *testing.T) {
	for _, most := range []int{0, 1, 2, 32, 255, 256, 257, 65534} {
		s := strings.Repeat("m", most)
		if got, to, why := octet.GetText(octet.PutText(nil, s), 0, most); got != s || to != most+2 || why != api.OK {
			t.Errorf("%d of %d: %d bytes, %d, %v", most, most, len(got), to, why)
		}
		if got, to, why := octet.GetText(octet.PutText(nil, s+"m"), 0, most); got != "" || to != 0 || why != api.ErrLong {
			t.Errorf("%d of %d: %d bytes, %d, %v", most+1, most, len(got), to, why)
		}
	}
}

// P1.3

func TestSigned(t *testing.T) {
	for _, c := range []struct {
		n     uint32
		width int
		want  int32
	}{
		{0, 1, 0}, {127, 1, 127}, {128, 1, -128}, {255, 1, -1}, {256, 1, 0}, {0x1ff, 1, -1}, {0xffffff7f, 1, 127},
		{0, 2, 0}, {128, 2, 128}, {32767, 2, 32767}, {32768, 2, -32768}, {65535, 2, -1}, {65536, 2, 0}, {0x1ffff, 2, -1}, {0xffff7fff, 2, 32767},
		{0, 4, 0}, {65535, 4, 65535}, {1<<31 - 1, 4, math.MaxInt32}, {1 << 31, 4, math.MinInt32}, {1<<32 - 1, 4, -1},
	} {
		if got := octet.Signed(c.n, c.width); got != c.want {
			t.Errorf("Signed(%d, %d): %d", c.n, c.width, got)
		}
	}
}

func TestFits(t *testing.T) {
	for _, c := range []struct {
		n     int32
		width int
		want  bool
	}{
		{0, 1, true}, {-1, 1, true}, {127, 1, true}, {128, 1, false}, {-128, 1, true}, {-129, 1, false}, {255, 1, false}, {256, 1, false}, {-256, 1, false},
		{0, 2, true}, {-1, 2, true}, {32767, 2, true}, {32768, 2, false}, {-32768, 2, true}, {-32769, 2, false}, {65535, 2, false}, {65536, 2, false}, {-65536, 2, false},
		{0, 4, true}, {-1, 4, true}, {math.MaxInt32, 4, true}, {math.MinInt32, 4, true},
		{math.MaxInt32, 1, false}, {math.MinInt32, 1, false}, {math.MaxInt32, 2, false}, {math.MinInt32, 2, false},
	} {
		if got := octet.Fits(c.n, c.width); got != c.want {
			t.Errorf("Fits(%d, %d): %t", c.n, c.width, got)
		}
	}
}

func TestFitsIsTheRangeOfItsWidth(t *testing.T) {
	for _, width := range widths {
		greatest := int64(1)<<(8*width-1) - 1
		least := -greatest - 1
		for _, n := range edges() {
			want := least <= int64(int32(n)) && int64(int32(n)) <= greatest
			if got := octet.Fits(int32(n), width); got != want {
				t.Errorf("Fits(%d, %d): %t", int32(n), width, got)
			}
		}
	}
}

func TestNothingIsSignedOrFitsOfAnotherWidth(t *testing.T) {
	for _, width := range noWidths {
		for _, n := range edges() {
			if got := octet.Signed(n, width); got != 0 {
				t.Errorf("Signed(%d, %d): %d", n, width, got)
			}
			if octet.Fits(int32(n), width) {
				t.Errorf("Fits(%d, %d)", int32(n), width)
			}
		}
	}
}

// P1.4

func TestGetOfPut(t *testing.T) {
	for _, before := range []string{"", "x", "wxyz"} {
		for _, width := range widths {
			for _, n := range edges() {
				b := octet.Put([]byte(before), n, width)
				got, why := octet.Get(b, len(before), width)
				if want := uint32(uint64(n) % (1 << (8 * width))); got != want || why != api.OK {
					t.Errorf("Get of Put(%q, %d, %d): %d, %v", before, n, width, got, why)
				}
				if octet.Fits(int32(n), width) && octet.Signed(got, width) != int32(n) {
					t.Errorf("Signed of Put(%d, %d): %d", int32(n), width, octet.Signed(got, width))
				}
			}
		}
	}
}

func TestWhatIsSignedOfAWidthFitsIt(t *testing.T) {
	for _, width := range widths {
		for _, n := range edges() {
			signed := octet.Signed(n, width)
			if !octet.Fits(signed, width) {
				t.Errorf("Signed(%d, %d) is %d and does not fit", n, width, signed)
			}
			if !bytes.Equal(octet.Put(nil, uint32(signed), width), octet.Put(nil, n, width)) {
				t.Errorf("Signed(%d, %d) is %d, of other bytes", n, width, signed)
			}
		}
	}
}

func TestWhatFitsAWidthFitsAGreaterOne(t *testing.T) {
	for _, n := range edges() {
		fitted := false
		for _, width := range widths {
			fits := octet.Fits(int32(n), width)
			if fitted && !fits {
				t.Errorf("%d fits less than %d bytes, but not these", int32(n), width)
			}
			fitted = fits
		}
		if !fitted {
			t.Errorf("%d does not fit four bytes", int32(n))
		}
	}
}

func TestGetTextOfPutText(t *testing.T) {
	b := []byte("head")
	texts := []string{"", "a", "", "\x00", strings.Repeat("long", 100), "z"}
	for _, s := range texts {
		b = octet.PutText(b, s)
	}
	at := len("head")
	for _, s := range texts {
		got, to, why := octet.GetText(b, at, len(s))
		if got != s || to != at+2+len(s) || why != api.OK {
			t.Fatalf("at %d: %q, %d, %v", at, got, to, why)
		}
		at = to
	}
	if at != len(b) {
		t.Errorf("the texts end at %d of %d", at, len(b))
	}
}

// R2: what is given stays as it is, its spare room too, and an answer is new memory.

func TestPutLeavesWhatIsGivenAlone(t *testing.T) {
	puts := []struct {
		name string
		put  func(b []byte) []byte
	}{
		{"Put 1", func(b []byte) []byte { return octet.Put(b, 0x01020304, 1) }},
		{"Put 2", func(b []byte) []byte { return octet.Put(b, 0x01020304, 2) }},
		{"Put 4", func(b []byte) []byte { return octet.Put(b, 0x01020304, 4) }},
		{"Put 3", func(b []byte) []byte { return octet.Put(b, 0x01020304, 3) }},
		{"PutText of nothing", func(b []byte) []byte { return octet.PutText(b, "") }},
		{"PutText", func(b []byte) []byte { return octet.PutText(b, "text") }},
	}
	for _, c := range puts {
		for _, s := range []string{"", "a", "abcdefgh"} {
			for _, room := range []int{0, 1, 2, 3, 64} {
				b := roomy(s, room)
				before := bytes.Clone(memory(b))
				got := c.put(b)
				if !bytes.Equal(memory(b), before) {
					t.Errorf("%s on %q with room %d: what was given is changed", c.name, s, room)
				}
				if shares(b, got) {
					t.Errorf("%s on %q with room %d: the answer is no new memory", c.name, s, room)
				}
				if other := c.put(b); shares(got, other) {
					t.Errorf("%s on %q with room %d: two answers share memory", c.name, s, room)
				}
			}
		}
	}
}

func TestAnswersStayWhenWhatWasGivenChanges(t *testing.T) {
	b := roomy("\x02\x00ab", 8)
	put, alone, putText := octet.Put(b, 7, 1), octet.Put(b, 7, 3), octet.PutText(b, "cd")
	text, _, _ := octet.GetText(b, 0, 2)
	clear(memory(b))
	if string(put) != "\x02\x00ab\x07" || string(alone) != "\x02\x00ab" || string(putText) != "\x02\x00ab\x02\x00cd" || text != "ab" {
		t.Errorf("answers hold on to what was given: %q, %q, %q, %q", put, alone, putText, text)
	}
}

func TestGetLeavesWhatIsGivenAlone(t *testing.T) {
	b := roomy("\x02\x00ab", 8)
	before := bytes.Clone(memory(b))
	for at := -1; at <= len(b)+1; at++ {
		for _, width := range append(noWidths, widths...) {
			octet.Get(b, at, width)
		}
		octet.GetText(b, at, 2)
	}
	if !bytes.Equal(memory(b), before) {
		t.Error("what was given is changed")
	}
}
