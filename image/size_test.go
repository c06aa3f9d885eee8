package image_test

import (
	"bytes"
	"slices"
	"strconv"
	"testing"

	"spandrel/api"
	"spandrel/decode"
	"spandrel/expr"
	"spandrel/image"
)

// As many items as a unit may have, as many units as a program, as many bytes as an image.

// fullImage answers the image of 64 units that have this Text and Data each.
func fullImage(t *testing.T, u api.Unit) *image.Image {
	t.Helper()
	return build(t, program(slices.Repeat([]api.Unit{u}, 64)...))
}

// inOrder asks that the Codes of m, gone over by their addresses, are those of decode, and how many there are.
func inOrder(t *testing.T, m *image.Image, want int) {
	t.Helper()
	b := m.Bytes()
	count := 0
	for at := range len(b) {
		place, ok := m.Where(at)
		if !ok {
			continue
		}
		count++
		inst, ok := m.Inst(place.Unit, place.Item)
		if got, _, why := decode.Decode(b, at); !ok || got != inst || why != api.OK {
			t.Fatalf("at %d stands %+v, %v, not %+v", at, got, why, inst)
		}
	}
	if count != want {
		t.Errorf("%d Codes, not %d", count, want)
	}
}

// 64 units of 8192 Codes.
func TestManyCodes(t *testing.T) {
	t.Parallel()
	m := fullImage(t, api.Unit{Text: slices.Repeat([]api.Item{code("halt", api.Lin{})}, 8192)})
	if !bytes.Equal(m.Bytes(), bytes.Repeat([]byte{1}, 64*8192)) {
		t.Error("the bytes are others")
	}
	for _, at := range []int{0, 1, 8191, 8192, 8193, 63 * 8192, 64*8192 - 1} {
		liesAt(t, m, at, image.Place{Unit: at / 8192, Item: at % 8192})
		becomes(t, m, at/8192, at%8192, api.Inst{Op: 2})
	}
	nothingAt(t, m, 64*8192)
	inOrder(t, m, 64*8192)
}

// 64 units of 4096 branches with two bytes: 2^20 bytes, each to its unit's beginning or end.
func TestManySpans(t *testing.T) {
	t.Parallel()
	u := api.Unit{Text: slices.Concat(
		[]api.Item{label("a")}, slices.Repeat([]api.Item{code("jz", named("a", -200)), code("jnz", named("b", 200))}, 2048), []api.Item{label("b")},
	)}
	m := fullImage(t, u)
	if len(m.Bytes()) != api.MaxImage || !slices.Equal(m.Forms(), same(2, 64*4096)) {
		t.Fatalf("%d bytes", len(m.Bytes()))
	}
	for n := range 64 {
		for i := range 4096 {
			want := api.Inst{Op: opOf("jz"), Form: 2, N: int32(-4*(i+1) - 200)}
			if i%2 == 1 {
				want = api.Inst{Op: opOf("jnz"), Form: 2, N: int32(4*(4095-i) + 200)}
			}
			if got, ok := m.Inst(n, i+1); got != want || !ok {
				t.Fatalf("Inst(%d, %d): %+v, not %+v", n, i+1, got, want)
			}
		}
	}
	inOrder(t, m, 64*4096)
}

// 64 units of 1820 loads, each with a pool: nine bytes each, less than 2^20 together.
func TestManyPools(t *testing.T) {
	t.Parallel()
	var u api.Unit
	for i := range 1820 {
		u.Text = append(u.Text, code("ldp", expr.Of(uint32(i))), api.Item{Kind: api.Pool})
	}
	m := fullImage(t, u)
	b := m.Bytes()
	for i := range 64 * 1820 {
		n := i % 1820
		if want := []byte{0x33, 0, 1, 0, 0xff, byte(n), byte(n >> 8), 0, 0}; !bytes.Equal(b[9*i:9*i+9], want) {
			t.Fatalf("the load %d: % x, not % x", i, b[9*i:9*i+9], want)
		}
	}
	inOrder(t, m, 64*1820)
}

// Pools of many literals, which are met in one order and then in the other.
func TestManyLoads(t *testing.T) {
	t.Parallel()
	const literals = 450
	var u api.Unit
	for range 3 {
		for i := range literals {
			u.Text = append(u.Text, code("ldp", named("a", 3*i)))
		}
		for i := range literals {
			u.Text = append(u.Text, code("ldp", named("a", 3*(literals-1-i))))
		}
		u.Text = append(u.Text, api.Item{Kind: api.Pool})
	}
	u.Text = append(u.Text, label("a"))
	m := fullImage(t, u)
	b := m.Bytes()
	const pool = 8*literals + 1 + 4*literals
	for n := range 64 * 3 {
		end := (n/3 + 1) * 3 * pool
		for i := range 2 * literals {
			literal := min(i, 2*literals-1-i)
			far := 4*(2*literals-1-i) + 1 + 4*literal
			place := image.Place{Unit: n / 3, Item: n%3*(2*literals+1) + i}
			at := n*pool + 4*i
			if got, ok := m.Inst(place.Unit, place.Item); got != (api.Inst{Op: opOf("ldp"), N: int32(far)}) || !ok {
				t.Fatalf("%+v: %+v, not %d", place, got, far)
			}
			value := end + 3*literal
			if got := b[at+4+far : at+8+far]; !bytes.Equal(got, []byte{byte(value), byte(value >> 8), byte(value >> 16), 0}) {
				t.Fatalf("%+v: % x, not %d", place, got, value)
			}
		}
	}
	inOrder(t, m, 64*3*2*literals)
}

// 64 units of 4096 words: 2^20 bytes.
func TestManyWords(t *testing.T) {
	t.Parallel()
	m := fullImage(t, api.Unit{Data: append([]api.Item{label("a")}, slices.Repeat([]api.Item{{Kind: api.Word, E: named("a", 5)}}, 4096)...)})
	b := m.Bytes()
	if len(b) != api.MaxImage {
		t.Fatalf("%d bytes", len(b))
	}
	for i := range 64 * 4096 {
		n := i/4096*4*4096 + 5
		if got := b[4*i : 4*i+4]; !bytes.Equal(got, []byte{byte(n), byte(n >> 8), byte(n >> 16), 0}) {
			t.Fatalf("the word %d: % x, not %d", i, got, n)
		}
	}
	units := slices.Repeat([]api.Unit{{Data: slices.Repeat([]api.Item{{Kind: api.Word}}, 4096)}}, 63)
	unbuilt(t, program(append(units, api.Unit{Data: append(slices.Clone(units[0].Data), api.Item{Kind: api.Byte, N: 1})})...), api.ErrImage)
}

// Far too large: addresses beyond 2^32.
func TestGreatestSpaces(t *testing.T) {
	t.Parallel()
	u := api.Unit{Data: slices.Repeat([]api.Item{{Kind: api.Space, N: api.MaxImage}}, 8192)}
	unbuilt(t, program(slices.Repeat([]api.Unit{u}, 64)...), api.ErrImage)
}

// Expressions of very many terms.
func TestManyTerms(t *testing.T) {
	const labels = 3000
	var u api.Unit
	var sum api.Lin
	value := uint32(0)
	for i := range labels {
		name := "x" + strconv.Itoa(10000+i)
		u.Text = append(u.Text, label(name), code("halt", api.Lin{}))
		sum.Terms = append(sum.Terms, api.Term{Name: name, Coef: uint32(1000003 * (i + 1))})
		value += uint32(i) * uint32(1000003*(i+1))
	}
	u.Text = append(u.Text, code("li", sum), code("ldp", sum), code("jmp", sum))
	u.Data = []api.Item{{Kind: api.Word, E: sum}}
	p := program(u)
	m := with(t, p, 4)
	becomes(t, m, 0, 2*labels, api.Inst{Op: opOf("li"), N: int32(value)})
	becomes(t, m, 0, 2*labels+1, api.Inst{Op: opOf("ldp"), N: 6})
	becomes(t, m, 0, 2*labels+2, api.Inst{Op: opOf("jmp"), N: int32(value - labels - 15), Form: 4})
	word := []byte{byte(value), byte(value >> 8), byte(value >> 16), byte(value >> 24)}
	if b := m.Bytes(); !bytes.Equal(b[labels+2:labels+6], word) || !bytes.Equal(b[labels+16:labels+20], word) || !bytes.Equal(b[len(b)-4:], word) {
		t.Errorf("% x", b[labels:])
	}
	agrees(t, p, []int{4})
}
