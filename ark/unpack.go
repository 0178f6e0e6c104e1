package ark

import (
	"bytes"

	"mews/api"
)

// stored is a file as it stands in an archive: its bytes are still a piece of
// the archive's.
type stored struct {
	file api.File
	crc  uint32
}

// Unpack is the files of an archive.
func Unpack(b []byte) ([]api.File, api.Errno) {
	if len(b) > api.MaxArchive {
		return nil, api.ErrLong
	}
	list, e := readHeads(b)
	if e != api.OK {
		return nil, e
	}
	if len(list) > api.MaxEntries {
		return nil, api.ErrMany
	}
	files, e := checked(list)
	if e != api.OK {
		return nil, e
	}
	// There is one form alone, so what is written anew tells whether b has it.
	if again, e := Pack(files); e != api.OK || !bytes.Equal(again, b) {
		return nil, api.ErrForm
	}
	return renamed(files, func(name string) string { return name }), api.OK
}

// readHeads is the files whose heads stand at the front.
func readHeads(b []byte) ([]stored, api.Errno) {
	var list []stored
	for bytes.HasPrefix(b, []byte(headMark)) {
		if len(b) < headSize {
			return nil, api.ErrShort
		}
		crc, length, nameLength := number(b[14:18]), number(b[18:22]), number(b[26:28])
		behind := b[headSize:]
		// A sum of 32 bits could wrap round.
		if uint64(len(behind)) < uint64(nameLength)+uint64(length) {
			return nil, api.ErrShort
		}
		name, behind := behind[:nameLength], behind[nameLength:]
		list = append(list, stored{api.File{Name: string(name), Data: behind[:length]}, crc})
		b = behind[length:]
	}
	return list, api.OK
}

// checked is the files, looked at one by one.
func checked(list []stored) ([]api.File, api.Errno) {
	check := nameCheck()
	var files []api.File
	for _, s := range list {
		if e := check(s.file.Name); e != api.OK {
			return nil, e
		}
		if CRC(s.file.Data) != s.crc {
			return nil, api.ErrSum
		}
		files = append(files, s.file)
	}
	return files, api.OK
}

// number is what bytes say, the low one first.
func number(b []byte) uint32 {
	var n uint32
	for i, c := range b {
		n |= uint32(c) << (8 * i)
	}
	return n
}
