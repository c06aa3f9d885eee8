package object_test

import (
	"bytes"
	"errors"
	"slices"
	"strings"
	"testing"
	"unsafe"

	"spandrel/api"
	"spandrel/object"
)

// given answers the names of u's labels and equs, sorted.
func given(u api.Unit) []string {
	var l []string
	for _, x := range append(slices.Clone(u.Text), u.Data...) {
		if x.Kind == api.Label {
			l = append(l, x.Name)
		}
	}
	for _, q := range u.Equs {
		l = append(l, q.Name)
	}
	slices.Sort(l)
	return l
}

// What refuses wraps a number.

func TestRefusalsWrapTheirNumbers(t *testing.T) {
	for _, c := range []struct {
		b   string
		at  int
		why api.Errno
	}{
		{strings.Repeat("S", api.MaxObject+1), 0, api.ErrLong},
		{"SPAM", 3, api.ErrHead},
		{begin + "\x00", 6, api.ErrEnd},
		{begin + "\x01\x00\x09", 7, api.ErrUnit},
		{begin + "\x01\x20", 5, api.ErrMany},
		{bytesOf(api.Unit{}) + "\x00", 13, api.ErrTail},
	} {
		_, err := object.Read([]byte(c.b))
		for n := api.Errno(-1); n < 40; n++ {
			if errors.Is(err, n) != (n == c.why) {
				t.Errorf("%q: errors.Is(%v, %d) is %v", shorter(c.b), err, int(n), n != c.why)
			}
		}
		var why api.Errno
		if !errors.As(err, &why) || why != c.why {
			t.Errorf("%q: errors.As finds the number %v, not %v", shorter(c.b), why, c.why)
		}
		var r, s *object.Refusal
		if !errors.As(err, &r) || r.At != c.at || r.Why != c.why {
			t.Fatalf("%q: errors.As finds %+v", shorter(c.b), r)
		}
		if r.Unwrap() != error(c.why) || errors.Unwrap(err) != error(c.why) {
			t.Errorf("%q: Unwrap answers %v", shorter(c.b), r.Unwrap())
		}
		if r.Error() == "" || err.Error() == "" {
			t.Errorf("%q: an error without words", shorter(c.b))
		}
		_, err = object.Read([]byte(c.b))
		if !errors.As(err, &s) || r == s || *r != *s {
			t.Errorf("%q: the second Refusal %p %+v is no new one beside %p %+v", shorter(c.b), s, s, r, r)
		}
		// Whoever changes one changes no other.
		*r = object.Refusal{At: -1}
		refuses(t, c.b, c.at, c.why)
	}
}

func TestNoRefusalIsNil(t *testing.T) {
	for _, u := range someUnits() {
		if _, err := object.Read([]byte(bytesOf(u))); err != nil {
			t.Errorf("%#v", err)
		}
	}
}

// R2: what is handed in is not changed and not kept, and answers are new memory.

// roomy answers s with room behind its length, filled with room.
func roomy(s, room string) []byte {
	b := append([]byte(s), room...)
	return b[:len(s)]
}

func memory(b []byte) []byte {
	return b[:cap(b)]
}

func TestReadLeavesItsBytes(t *testing.T) {
	whole := bytesOf(someUnit())
	for _, s := range []string{"", "SPAM", begin, whole, whole[:50], whole[:len(whole)-1], whole + "\x00", begin + "\x01\x00\x09"} {
		for _, room := range []string{"", "\x00", "\xff\xff\xff", whole, whole[min(len(s), len(whole)):]} {
			b := roomy(s, room)
			before := bytes.Clone(memory(b))
			got, err := object.Read(b)
			if !bytes.Equal(memory(b), before) {
				t.Errorf("%q with room %q is changed", shorter(s), shorter(room))
			}
			want, wantErr := object.Read([]byte(s))
			if !same(got, want) || (err == nil) != (wantErr == nil) || err != nil && *err.(*object.Refusal) != *wantErr.(*object.Refusal) {
				t.Errorf("%q with room %q: %v, not %v: the room is read", shorter(s), shorter(room), err, wantErr)
			}
		}
	}
}

func TestAUnitHoldsOnToNoBytes(t *testing.T) {
	for _, u := range someUnits() {
		b := roomy(bytesOf(u), "room")
		got := taken(t, b)
		clear(memory(b))
		if !same(got, u) {
			t.Errorf("%+v has become %+v", u, got)
		}
		for _, name := range names(got) {
			if within(name, b) {
				t.Errorf("%+v: the name %q is a piece of the bytes", u, name)
			}
		}
	}
}

// names answers all texts of u.
func names(u api.Unit) []string {
	l := slices.Clone(u.Globals)
	for _, x := range append(slices.Clone(u.Text), u.Data...) {
		l = append(l, x.Name)
	}
	for _, q := range u.Equs {
		l = append(l, q.Name)
	}
	for _, terms := range terms(u) {
		for _, x := range terms {
			l = append(l, x.Name)
		}
	}
	return l
}

// within tells whether s lies in the memory of b.
func within(s string, b []byte) bool {
	if s == "" || cap(b) == 0 {
		return false
	}
	at, from := uintptr(unsafe.Pointer(unsafe.StringData(s))), uintptr(unsafe.Pointer(unsafe.SliceData(b)))
	return at >= from && at < from+uintptr(cap(b))
}

// spared answers u with room behind the length of each of its lists, filled with what is not right.
func spared(u api.Unit) api.Unit {
	v := api.Unit{Globals: append(slices.Clone(u.Globals), "nobody")[:len(u.Globals)]}
	for _, x := range u.Text {
		x.E = sparedLin(x.E)
		v.Text = append(v.Text, x)
	}
	for _, x := range u.Data {
		x.E = sparedLin(x.E)
		v.Data = append(v.Data, x)
	}
	for _, q := range u.Equs {
		v.Equs = append(v.Equs, equal(q.Name, sparedLin(q.E)))
	}
	v.Text = append(v.Text, label("r1"))[:len(u.Text)]
	v.Data = append(v.Data, label("r1"))[:len(u.Data)]
	v.Equs = append(v.Equs, equal("r1", lin(0)))[:len(u.Equs)]
	return v
}

func sparedLin(e api.Lin) api.Lin {
	return api.Lin{Terms: append(slices.Clone(e.Terms), term("a", 0))[:len(e.Terms)], Const: e.Const}
}

// whole answers a copy of u with all that stands in its lists' room.
func whole(u api.Unit) api.Unit {
	v := api.Unit{Text: slices.Clone(u.Text[:cap(u.Text)]), Data: slices.Clone(u.Data[:cap(u.Data)]), Equs: slices.Clone(u.Equs[:cap(u.Equs)]), Globals: slices.Clone(u.Globals[:cap(u.Globals)])}
	for _, l := range [][]api.Item{v.Text, v.Data} {
		for n, x := range l {
			l[n].E.Terms = slices.Clone(x.E.Terms[:cap(x.E.Terms)])
		}
	}
	for n, q := range v.Equs {
		v.Equs[n].E.Terms = slices.Clone(q.E.Terms[:cap(q.E.Terms)])
	}
	return v
}

// terms answers all lists of terms of u, those of its lists' room too, each with its own room.
func terms(u api.Unit) [][]api.Term {
	var l [][]api.Term
	for _, items := range [][]api.Item{u.Text[:cap(u.Text)], u.Data[:cap(u.Data)]} {
		for _, x := range items {
			l = append(l, x.E.Terms[:cap(x.E.Terms)])
		}
	}
	for _, q := range u.Equs[:cap(u.Equs)] {
		l = append(l, q.E.Terms[:cap(q.E.Terms)])
	}
	return l
}

// scribble writes over all lists of u, their spare room too.
func scribble(u api.Unit) {
	for _, l := range terms(u) {
		for n := range l {
			l[n] = term("?", 99)
		}
	}
	for _, l := range [][]api.Item{u.Text[:cap(u.Text)], u.Data[:cap(u.Data)]} {
		for n := range l {
			l[n] = counted(99, 99)
		}
	}
	for n := range u.Equs[:cap(u.Equs)] {
		u.Equs[:cap(u.Equs)][n] = equal("?", lin(99))
	}
	for n := range u.Globals[:cap(u.Globals)] {
		u.Globals[:cap(u.Globals)][n] = "?"
	}
}

func TestWriteLeavesItsUnit(t *testing.T) {
	all := someUnits()
	for _, u := range wrongUnits() {
		all = append(all, u)
	}
	for _, u := range all {
		want, wantWhy := object.Write(u)
		v := spared(u)
		before := whole(v)
		b, why := object.Write(v)
		if !bytes.Equal(b, want) || why != wantWhy {
			t.Errorf("%s: %q, %v; not %q, %v: what lies behind the lengths is read", told(u), shorter(b), why, shorter(want), wantWhy)
		}
		if !same(whole(v), before) {
			t.Errorf("%s has become %s", told(before), told(whole(v)))
		}
		scribble(v)
		if !bytes.Equal(b, want) {
			t.Errorf("%s: the bytes hang on the unit", told(u))
		}
	}
}

func TestObjectsAreNewMemory(t *testing.T) {
	for _, u := range someUnits() {
		first, second := written(t, u), written(t, u)
		clear(memory(first))
		if want := bytesOf(u); string(second) != want || string(written(t, u)) != want {
			t.Errorf("%+v: an object hangs on one that was answered ahead", u)
		}
	}
}

func TestUnitsAreNewMemory(t *testing.T) {
	for _, u := range someUnits() {
		b := []byte(bytesOf(u))
		first, second := taken(t, b), taken(t, b)
		scribble(first)
		if !same(second, u) || !same(taken(t, b), u) || string(b) != bytesOf(u) {
			t.Errorf("%+v: a unit hangs on one that was answered ahead", u)
		}
	}
}

func TestListsOfOneUnitShareNoMemory(t *testing.T) {
	for _, u := range someUnits() {
		b := []byte(bytesOf(u))
		got := taken(t, b)
		lists := terms(got)
		want := terms(whole(got))
		for n, l := range lists {
			for i := range l {
				l[i] = term("?", 99)
			}
			for m := n + 1; m < len(lists); m++ {
				if !slices.Equal(lists[m], want[m]) {
					t.Errorf("%+v: the terms %d and %d share memory", u, n, m)
				}
			}
		}
		got = taken(t, b)
		texts, datas := got.Text[:cap(got.Text)], got.Data[:cap(got.Data)]
		for n := range texts {
			texts[n] = counted(99, 99)
		}
		if !slices.EqualFunc(got.Data, u.Data, sameItem) {
			t.Errorf("%+v: Text and Data share memory", u)
		}
		got = taken(t, b)
		datas = got.Data[:cap(got.Data)]
		for n := range datas {
			datas[n] = counted(99, 99)
		}
		if !slices.EqualFunc(got.Text, u.Text, sameItem) {
			t.Errorf("%+v: Data and Text share memory", u)
		}
	}
}

// R4: nil and empty lists mean the same.
func TestNilAndEmptyLists(t *testing.T) {
	none, empty := lin(3), api.Lin{Terms: []api.Term{}, Const: 3}
	for n, u := range holders(none) {
		if v := holders(empty)[n]; !bytes.Equal(written(t, u), written(t, v)) {
			t.Errorf("%+v", u)
		}
	}
	x, y := code(opNop, 0, 0, 0), code(opNop, 0, 0, 0)
	y.E.Terms = []api.Term{}
	if !bytes.Equal(written(t, inText(x)), written(t, inText(y))) {
		t.Error("an instruction without an expression")
	}
	if u, err := object.Read([]byte{}); !errors.Is(err, api.ErrHead) || !same(u, api.Unit{}) {
		t.Error(u, err)
	}
}

// The calls hang on what they are given alone: refused ones change nothing that a later one tells.
func TestCallsDoNotHangOnEachOther(t *testing.T) {
	var objects []string
	for _, u := range someUnits() {
		b := bytesOf(u)
		objects = append(objects, b, b[:len(b)-1], b+"\x00", b[:len(b)/2])
	}
	for _, first := range objects {
		for _, b := range objects {
			object.Read([]byte(first))
			agrees(t, b)
		}
	}
}
