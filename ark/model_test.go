package ark_test

import (
	"bytes"
	"crypto/sha256"
	"encoding/base64"
	"encoding/binary"
	"fmt"
	"hash/crc32"
	"regexp"
	"sort"
	"strings"

	"mews/api"
)

// The parts of an archive, as they lie in it.
type (
	zipHead struct {
		Mark                               [4]byte
		Version, Flags, Method, Time, Date uint16
		CRC, Length, Again                 uint32
		NameLength, Extra                  uint16
	}
	zipEntry struct {
		Mark                                   [4]byte
		By, Version, Flags, Method, Time, Date uint16
		CRC, Length, Again                     uint32
		NameLength, Extra, Comment, Disk, In   uint16
		Out, Place                             uint32
	}
	zipEnd struct {
		Mark                     [4]byte
		Disk, First, Count, Same uint16
		Length, Place            uint32
		Comment                  uint16
	}
)

// written is parts as bytes, the low one first.
func written(parts ...any) []byte {
	var b bytes.Buffer
	for _, part := range parts {
		if err := binary.Write(&b, binary.LittleEndian, part); err != nil {
			panic(err)
		}
	}
	return b.Bytes()
}

func headOf(f api.File) zipHead {
	length := uint32(len(f.Data))
	return zipHead{[4]byte{0x50, 0x4b, 3, 4}, 20, 0, 0, 0, 33, crc32.ChecksumIEEE(f.Data), length, length, uint16(len(f.Name)), 0}
}

// headed is a file's head, its name and its bytes.
func headed(f api.File) []byte { return written(headOf(f), []byte(f.Name), f.Data) }

func entryOf(f api.File, place int) zipEntry {
	length := uint32(len(f.Data))
	return zipEntry{
		[4]byte{0x50, 0x4b, 1, 2}, 20, 20, 0, 0, 0, 33, crc32.ChecksumIEEE(f.Data), length, length,
		uint16(len(f.Name)), 0, 0, 0, 0, 0, uint32(place),
	}
}

func endOf(count, length, place int) zipEnd {
	return zipEnd{[4]byte{0x50, 0x4b, 5, 6}, 0, 0, uint16(count), uint16(count), uint32(length), uint32(place), 0}
}

// closed is heads, with the second part of the files and the end behind them.
func closed(heads []byte, files ...api.File) []byte {
	var second []byte
	place := 0
	for _, f := range files {
		second = append(second, written(entryOf(f, place), []byte(f.Name))...)
		place += len(headed(f))
	}
	return joined(heads, second, written(endOf(len(files), len(second), len(heads))))
}

// laid is an archive of files as they come, whatever their names are.
func laid(files ...api.File) []byte {
	var heads []byte
	for _, f := range files {
		heads = append(heads, headed(f)...)
	}
	return closed(heads, files...)
}

var modelElement = regexp.MustCompile(`^[!#-)+-.0-9;=@-\[\]-{}~]([ !#-)+-.0-9;=@-\[\]-{}~]*[!#-)+-.0-9;=@-\[\]-{}~])?$`)

func modelName(name string) bool {
	if len(name) < 1 || len(name) > 200 || strings.Contains(name, "\n") {
		return false
	}
	for _, element := range strings.Split(name, "/") {
		if !modelElement.MatchString(element) || element == "." || element == ".." {
			return false
		}
	}
	return true
}

// modelNames is the error of the names of all files, the last one's too.
func modelNames(files []api.File) api.Errno {
	for i, f := range files {
		if !modelName(f.Name) {
			return api.ErrName
		}
		for _, other := range files[:i] {
			if strings.EqualFold(other.Name, f.Name) {
				return api.ErrTwice
			}
		}
	}
	return api.OK
}

func modelRising(files []api.File) []api.File {
	rising := append([]api.File{}, files...)
	sort.SliceStable(rising, func(i, k int) bool { return rising[i].Name < rising[k].Name })
	return rising
}

func modelPack(files []api.File) ([]byte, api.Errno) {
	if len(files) > 100 {
		return nil, api.ErrMany
	}
	if e := modelNames(files); e != api.OK {
		return nil, e
	}
	b := laid(modelRising(files)...)
	if len(b) > 1<<20 {
		return nil, api.ErrLong
	}
	return b, api.OK
}

// modelHeads reads heads by the library's reader.
func modelHeads(b []byte) ([]api.File, []uint32, api.Errno) {
	var files []api.File
	var crcs []uint32
	for len(b) >= 4 && string(b[:4]) == "PK\x03\x04" {
		var head zipHead
		if binary.Read(bytes.NewReader(b), binary.LittleEndian, &head) != nil {
			return nil, nil, api.ErrShort
		}
		name := 30 + int64(head.NameLength)
		end := name + int64(head.Length)
		if end > int64(len(b)) {
			return nil, nil, api.ErrShort
		}
		files = append(files, api.File{Name: string(b[30:name]), Data: b[name:end]})
		crcs = append(crcs, head.CRC)
		b = b[end:]
	}
	return files, crcs, api.OK
}

func modelUnpack(b []byte) ([]api.File, api.Errno) {
	if len(b) > 1<<20 {
		return nil, api.ErrLong
	}
	files, crcs, e := modelHeads(b)
	if e != api.OK {
		return nil, e
	}
	if len(files) > 100 {
		return nil, api.ErrMany
	}
	for i, f := range files {
		if e := modelNames(files[:i+1]); e != api.OK {
			return nil, e
		}
		if crc32.ChecksumIEEE(f.Data) != crcs[i] {
			return nil, api.ErrSum
		}
	}
	if !bytes.Equal(b, laid(modelRising(files)...)) {
		return nil, api.ErrForm
	}
	return files, api.OK
}

func modelSum(files []api.File) string {
	text := ""
	for _, f := range modelRising(files) {
		text += fmt.Sprintf("%x  %s\n", sha256.Sum256(f.Data), f.Name)
	}
	hash := sha256.Sum256([]byte(text))
	return "h1:" + base64.StdEncoding.EncodeToString(hash[:])
}

// modelFromBase64 asks the library, which passes over newlines: hence the way back.
func modelFromBase64(s string) ([]byte, api.Errno) {
	b, err := base64.StdEncoding.Strict().DecodeString(s)
	if err != nil || base64.StdEncoding.EncodeToString(b) != s {
		return nil, api.ErrForm
	}
	return b, api.OK
}
