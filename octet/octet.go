// Package octet writes and reads numbers and texts in bytes, the lowest byte first: see doc/01-octet.md.
package octet

import (
	"spandrel/api"
)

// lengthWidth is how many bytes tell the length of a text.
const lengthWidth = 2

// Put answers b and behind it the lowest width bytes of n, the lowest first; of another width b alone, in new memory.
func Put(b []byte, n uint32, width int) []byte {
	if !isWidth(width) {
		// Nothing is appended here, so a cut alone would hand the caller's own bytes back.
		return append([]byte(nil), b...)
	}
	out := cut(b)
	for range width {
		out = append(out, byte(n))
		n >>= 8
	}
	return out
}

// Get answers the number of width bytes that stands in b from at on.
func Get(b []byte, at, width int) (uint32, api.Errno) {
	if !isWidth(width) || at < 0 || at > len(b) {
		return 0, api.ErrArg
	}
	// The bytes that are left are counted, as at + width might be too great for an int.
	if len(b)-at < width {
		return 0, api.ErrEnd
	}
	n := uint32(0)
	for i := range width {
		n |= uint32(b[at+i]) << (8 * i)
	}
	return n, api.OK
}

// Signed answers the number with its sign that the lowest width bytes of n are; 0 of another width.
func Signed(n uint32, width int) int32 {
	switch width {
	case 1:
		return int32(int8(n))
	case 2:
		return int32(int16(n))
	case 4:
		return int32(n)
	}
	return 0
}

// Fits tells whether width bytes can hold n with its sign; false of another width.
func Fits(n int32, width int) bool {
	return isWidth(width) && Signed(uint32(n), width) == n
}

// PutText answers b, behind it the number of s's bytes by two bytes, modulo 2^16, and these.
func PutText(b []byte, s string) []byte {
	out := Put(b, uint32(len(s)), lengthWidth)
	return append(out, s...)
}

// GetText answers the text of at most most bytes whose length stands in b at at, and the place behind it.
func GetText(b []byte, at, most int) (string, int, api.Errno) {
	length, why := Get(b, at, lengthWidth)
	if why != api.OK {
		return "", 0, why
	}
	size := int(length)
	if size > most {
		return "", 0, api.ErrLong
	}
	from := at + lengthWidth
	if len(b)-from < size {
		return "", 0, api.ErrEnd
	}
	return string(b[from : from+size]), from + size, api.OK
}

func isWidth(width int) bool {
	return width == 1 || width == 2 || width == 4
}

// cut answers b without its spare room, so that the first byte appended to it moves it to new memory.
func cut(b []byte) []byte {
	return b[:len(b):len(b)]
}
