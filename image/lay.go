package image

import (
	"spandrel/api"
	"spandrel/encode"
	"spandrel/layout"
	"spandrel/loads"
	"spandrel/octet"
	"spandrel/pool"
)

// poolByte begins each pool: no instruction begins so.
const poolByte = 0xff

// The widths of numbers in the image.
const (
	byteSize = 1
	wordSize = 4
)

// lay answers the bytes of the image that has these codes.
func (b built) lay(codes []code) []byte {
	// What is laid nowhere, as aligns and spaces are not, stays nought.
	out := make([]byte, b.layout.Size)
	for _, c := range codes {
		encoded, _ := encode.Encode(c.inst)
		copy(out[c.at:], encoded)
	}
	b.layPools(out)
	for unit := range b.program.Units() {
		for i, x := range b.program.Items(unit, data) {
			copy(out[b.layout.Data[unit][i]:], b.datum(x))
		}
	}
	return out
}

// layPools lays all pools into out.
func (b built) layPools(out []byte) {
	for number, q := range pool.Pools(b.program) {
		out[b.layout.Pools[number]] = poolByte
		for n, x := range q.Literals {
			copy(out[loads.LiteralAt(b.layout, number, n):], b.word(x))
		}
	}
}

// datum answers the bytes of an item of a Data that are not nought whatever it is.
func (b built) datum(x api.Item) []byte {
	switch x.Kind {
	case api.Byte:
		return octet.Put(nil, uint32(x.N), byteSize)
	case api.Word:
		return b.word(x.E)
	}
	return nil
}

// word answers the bytes of the number that x is.
func (b built) word(x api.Lin) []byte {
	return octet.Put(nil, layout.Value(b.layout, x), wordSize)
}
