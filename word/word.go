// Package word is layer 1: see shared/doc/01-word.md.
package word

import (
	"tabulary/api"
)

const (
	blockSize   = 64 // bytes of a block
	blockWords  = 16 // words of a block
	spreadWords = 64 // words that a block is spread to
	lengthSize  = 8  // bytes that tell a message's length
	padLimit    = 1 + (blockSize - 1) + lengthSize
)

// Turn turns a word.
func Turn(w uint32, n int) uint32 {
	// The lowest five bits are n modulo 32 below 0 too, where turning right by them is turning left by -n.
	right := uint(n) & 31
	return w>>right | w<<(32-right)
}

// Choose chooses bits.
func Choose(x, y, z uint32) uint32 { return x&y | ^x&z }

// Most are bits that most have.
func Most(x, y, z uint32) uint32 { return x&y | x&z | y&z }

// mixer makes the function that mixes a word's turns.
func mixer(turns ...int) func(w uint32) uint32 {
	return func(w uint32) uint32 {
		mixed := uint32(0)
		for _, n := range turns {
			mixed ^= Turn(w, n)
		}
		return mixed
	}
}

// Big is a great mix.
func Big(w uint32, which int) uint32 {
	turns := [3]int{2, 13, 22}
	switch {
	case which != 0:
		turns = [3]int{6, 11, 25}
		fallthrough
	default:
		return mixer(turns[:]...)(w)
	}
}

// Small is a small one.
func Small(w uint32, which int) uint32 {
	turns, moved := [2]int{7, 18}, 3
	switch {
	case which != 0:
		turns, moved = [2]int{17, 19}, 10
		fallthrough
	default:
		return mixer(turns[:]...)(w) ^ w>>moved
	}
}

// Words are a block's words.
func Words(block string) ([]uint32, api.Errno) {
	if len(block) != blockSize {
		return nil, api.ErrArg
	}
	var words [blockWords]uint32
	for i := range words {
		words[i] = wordAt(block, 4*i)
	}
	return words[:], api.OK
}

// wordAt is the word whose highest byte is at that place.
func wordAt(s string, at int) uint32 {
	return uint32(s[at])<<24 | uint32(s[at+1])<<16 | uint32(s[at+2])<<8 | uint32(s[at+3])
}

// Bytes are words' bytes.
func Bytes(l []uint32) string {
	out := make([]byte, 0, 4*len(l))
	for _, w := range l {
		out = append(out, byte(w>>24), byte(w>>16), byte(w>>8), byte(w))
	}
	return string(out)
}

// Pad is what fills up a message.
func Pad(n uint64) string {
	// Going round at 2^64 does no harm to what is left modulo a block, as 2^64 is whole blocks.
	zeros := int((blockSize - lengthSize - 1 - n) % blockSize)
	size := 1 + zeros + lengthSize
	var pad [padLimit]byte
	pad[0] = 0x80
	bits := 8 * n
	for i := range lengthSize {
		pad[size-1-i] = byte(bits >> (8 * i))
	}
	return string(pad[:size])
}

// Spread are a block's words, spread.
func Spread(block string) ([]uint32, api.Errno) {
	words, e := Words(block)
	if e != api.OK {
		return nil, e
	}
	var spread [spreadWords]uint32
	copy(spread[:], words)
	for i := blockWords; i < spreadWords; i++ {
		spread[i] = Small(spread[i-2], 1) + spread[i-7] + Small(spread[i-15], 0) + spread[i-16]
	}
	return spread[:], api.OK
}
