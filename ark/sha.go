package ark

import "math/bits"

const (
	blockSize = 64
	// lengthPlace is where the length stands in the last block.
	lengthPlace = blockSize - 8
)

// SHA256 is SHA-256.
func SHA256(b []byte) []byte {
	state, numbers := firstState(), roundNumbers()
	whole := len(b) - len(b)%blockSize
	for i := 0; i < whole; i += blockSize {
		state = mixed(state, b[i:i+blockSize], numbers)
	}
	end := lastBlocks(b[whole:], uint64(len(b))*8)
	for i := 0; i < len(end); i += blockSize {
		state = mixed(state, end[i:i+blockSize], numbers)
	}
	four := highFirst(4)
	hash := make([]byte, 0, 4*len(state))
	for _, word := range state {
		hash = four(hash, uint64(word))
	}
	return hash
}

// lastBlocks is what no longer fills a block, with what is laid behind each
// text: a bit, zeros to the end of a block, but for the text's length in bits.
func lastBlocks(rest []byte, length uint64) []byte {
	end := make([]byte, 0, 2*blockSize)
	end = append(end, rest...)
	end = append(end, 0x80)
	for len(end)%blockSize != lengthPlace {
		end = append(end, 0)
	}
	return highFirst(8)(end, length)
}

// highFirst is a function that lays a number of so many bytes behind b, the
// high one first.
func highFirst(width int) func(b []byte, number uint64) []byte {
	return func(b []byte, number uint64) []byte {
		for shift := 8 * (width - 1); shift >= 0; shift -= 8 {
			b = append(b, byte(number>>shift))
		}
		return b
	}
}

// mixed is the state behind one more block.
func mixed(state [8]uint32, block []byte, numbers [64]uint32) [8]uint32 {
	words := schedule(block)
	a, b, c, d, e, f, g, h := state[0], state[1], state[2], state[3], state[4], state[5], state[6], state[7]
	for i := range numbers {
		turnedE := bits.RotateLeft32(e, -6) ^ bits.RotateLeft32(e, -11) ^ bits.RotateLeft32(e, -25)
		chosen := e&f ^ ^e&g
		one := h + turnedE + chosen + numbers[i] + words[i]
		turnedA := bits.RotateLeft32(a, -2) ^ bits.RotateLeft32(a, -13) ^ bits.RotateLeft32(a, -22)
		most := a&b ^ a&c ^ b&c
		a, b, c, d, e, f, g, h = one+turnedA+most, a, b, c, d+one, e, f, g
	}
	for i, word := range [8]uint32{a, b, c, d, e, f, g, h} {
		state[i] += word
	}
	return state
}

// schedule is the words of a block, a round each.
func schedule(block []byte) [64]uint32 {
	var words [64]uint32
	for i := range 16 {
		four := block[4*i : 4*i+4]
		words[i] = uint32(four[0])<<24 | uint32(four[1])<<16 | uint32(four[2])<<8 | uint32(four[3])
	}
	for i := 16; i < len(words); i++ {
		x, y := words[i-15], words[i-2]
		turnedX := bits.RotateLeft32(x, -7) ^ bits.RotateLeft32(x, -18) ^ x>>3
		turnedY := bits.RotateLeft32(y, -17) ^ bits.RotateLeft32(y, -19) ^ y>>10
		words[i] = words[i-16] + turnedX + words[i-7] + turnedY
	}
	return words
}

// firstState is the fractions of the square roots of the first eight primes.
func firstState() [8]uint32 {
	return [8]uint32{
		0x6a09e667, 0xbb67ae85, 0x3c6ef372, 0xa54ff53a, 0x510e527f, 0x9b05688c, 0x1f83d9ab, 0x5be0cd19,
	}
}

// roundNumbers is the fractions of the cube roots of the first 64 primes.
func roundNumbers() [64]uint32 {
	return [64]uint32{
		0x428a2f98, 0x71374491, 0xb5c0fbcf, 0xe9b5dba5, 0x3956c25b, 0x59f111f1, 0x923f82a4, 0xab1c5ed5,
		0xd807aa98, 0x12835b01, 0x243185be, 0x550c7dc3, 0x72be5d74, 0x80deb1fe, 0x9bdc06a7, 0xc19bf174,
		0xe49b69c1, 0xefbe4786, 0x0fc19dc6, 0x240ca1cc, 0x2de92c6f, 0x4a7484aa, 0x5cb0a9dc, 0x76f988da,
		0x983e5152, 0xa831c66d, 0xb00327c8, 0xbf597fc7, 0xc6e00bf3, 0xd5a79147, 0x06ca6351, 0x14292967,
		0x27b70a85, 0x2e1b2138, 0x4d2c6dfc, 0x53380d13, 0x650a7354, 0x766a0abb, 0x81c2c92e, 0x92722c85,
		0xa2bfe8a1, 0xa81a664b, 0xc24b8b70, 0xc76c51a3, 0xd192e819, 0xd6990624, 0xf40e3585, 0x106aa070,
		0x19a4c116, 0x1e376c08, 0x2748774c, 0x34b0bcb5, 0x391c0cb3, 0x4ed8aa4a, 0x5b9cca4f, 0x682e6ff3,
		0x748f82ee, 0x78a5636f, 0x84c87814, 0x8cc70208, 0x90befffa, 0xa4506ceb, 0xbef9a3f7, 0xc67178f2,
	}
}
