package ark_test

import (
	"bytes"
	"crypto/sha256"
	"encoding/hex"
	"fmt"
	"hash/crc32"
	"math/rand"
	"strings"
	"testing"

	"mews/ark"
)

// hashes fails the test unless the SHA-256 of the bytes is that one.
func hashes(t *testing.T, b []byte, want string) {
	t.Helper()
	hash := ark.SHA256(b)
	is(t, fmt.Sprintf("how many bytes SHA256 of %d bytes has", len(b)), len(hash), 32)
	is(t, fmt.Sprintf("SHA256 of %d bytes, %.40q", len(b), b), fmt.Sprintf("%x", hash), want)
}

func TestP6_1_SHA256OfKnownTexts(t *testing.T) {
	for text, want := range map[string]string{
		"":    "e3b0c44298fc1c149afbf4c8996fb92427ae41e4649b934ca495991b7852b855",
		"abc": "ba7816bf8f01cfea414140de5dae2223b00361a396177a9cb410ff61f20015ad",
		"abcdbcdecdefdefgefghfghighijhijkijkljklmklmnlmnomnopnopq":                                                         "248d6a61d20638b8e5c026930c3e6039a33ce45964ff2167f6ecedd419db06c1",
		"abcdefghbcdefghicdefghijdefghijkefghijklfghijklmghijklmnhijklmnoijklmnopjklmnopqklmnopqrlmnopqrsmnopqrstnopqrstu": "cf5b16a778af8380036ce59e7b0492370b249b11e8f07a51afac45037afee9d1",
	} {
		hashes(t, []byte(text), want)
		is(t, "Hex of it", ark.Hex(ark.SHA256([]byte(text))), want)
	}
	hashes(t, nil, "e3b0c44298fc1c149afbf4c8996fb92427ae41e4649b934ca495991b7852b855")
	hashes(t, bytes.Repeat([]byte("a"), 1000000), "cdc76e5c9914fb9281a1c7e284d73e67f1809a48a497200e046d39ccc7112cd0")
}

func TestP6_1_SHA256AtTheEdges(t *testing.T) {
	for count, want := range map[int]string{
		55:  "9f4390f8d30c2dd92ec9f095b65e2b9ae9b0a925a5258e241c9f1e910f734318",
		56:  "b35439a4ac6f0948b6d6f9e3c6af0f5f590ce20f1bde7090ef7970686ec6738a",
		63:  "7d3e74a05d7db15bce4ad9ec0658ea98e3f06eeecf16b4c6fff2da457ddc2f34",
		64:  "ffe054fe7ae0cb6dc65c3af9b61d5209f439851db43d0ba5997337df154668eb",
		65:  "635361c48bb9eab14198e76ea8ab7f1a41685d6ad62aa9146d301d4f17eb0ae0",
		119: "31eba51c313a5c08226adf18d4a359cfdfd8d2e816b13f4af952f7ea6584dcfb",
		120: "2f3d335432c70b580af0e8e1b3674a7c020d683aa5f73aaaedfdc55af904c21c",
		128: "6836cf13bac400e9105071cd6af47084dfacad4e5e302c94bfed24e013afb73e",
	} {
		hashes(t, bytes.Repeat([]byte("a"), count), want)
	}
}

func TestP6_1_SHA256OfEachLength(t *testing.T) {
	chance := rand.New(rand.NewSource(61))
	for count := range 1200 {
		b := make([]byte, count)
		hashes(t, b, fmt.Sprintf("%x", sha256.Sum256(b)))
		chance.Read(b)
		hashes(t, b, fmt.Sprintf("%x", sha256.Sum256(b)))
	}
	// Lengths whose bits take three bytes, and four.
	for _, count := range []int{8191, 8192, 8193, 2097151, 2097152, 2097153} {
		b := make([]byte, count)
		chance.Read(b)
		hashes(t, b, fmt.Sprintf("%x", sha256.Sum256(b)))
	}
}

func TestP6_1_CRC(t *testing.T) {
	is(t, "CRC(abc)", ark.CRC([]byte("abc")), 0x352441c2)
	is(t, "CRC(123456789)", ark.CRC([]byte("123456789")), 0xcbf43926)
	is(t, "CRC of nothing", ark.CRC(nil), 0)
	is(t, "CRC of nothing", ark.CRC([]byte{}), 0)
	for c := range 256 {
		for _, b := range [][]byte{{byte(c)}, {byte(c), 0}, {0, byte(c)}, {0xff, byte(c), 0xff}} {
			is(t, fmt.Sprintf("CRC(%x)", b), ark.CRC(b), crc32.ChecksumIEEE(b))
		}
	}
	chance := rand.New(rand.NewSource(62))
	for count := range 600 {
		b := make([]byte, count)
		is(t, fmt.Sprintf("CRC of %d zeros", count), ark.CRC(b), crc32.ChecksumIEEE(b))
		chance.Read(b)
		is(t, fmt.Sprintf("CRC(%x)", b), ark.CRC(b), crc32.ChecksumIEEE(b))
	}
}

func TestP6_1_Hex(t *testing.T) {
	is(t, "Hex of nothing", ark.Hex(nil), "")
	is(t, "Hex", ark.Hex([]byte{0, 1, 9, 10, 15, 16, 0x9f, 0xa0, 0xfe, 0xff}), "0001090a0f109fa0feff")
	all := ""
	var bytes []byte
	for c := range 256 {
		is(t, "Hex", ark.Hex([]byte{byte(c)}), fmt.Sprintf("%02x", c))
		bytes = append(bytes, byte(c))
		all += fmt.Sprintf("%02x", c)
	}
	is(t, "Hex of each byte", ark.Hex(bytes), all)
	is(t, "whether it has letters of upper case", strings.ToLower(ark.Hex(bytes)) == ark.Hex(bytes), true)
	chance := rand.New(rand.NewSource(63))
	for range 500 {
		b := drawBytes(chance, 100)
		is(t, "Hex", ark.Hex(b), hex.EncodeToString(b))
	}
}
