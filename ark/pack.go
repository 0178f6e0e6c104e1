package ark

import "mews/api"

// What the parts of an archive begin with.
const (
	headMark  = "PK\x03\x04"
	entryMark = "PK\x01\x02"
	endMark   = "PK\x05\x06"
)

// How many bytes the parts have, beside names and bytes of files.
const (
	headSize  = 30
	entrySize = 46
	endSize   = 22
)

// What stands in each archive: a zip of version 2.0, of 1980's first day.
const (
	version = 20
	date    = 33
)

// Pack is the archive of files.
func Pack(files []api.File) ([]byte, api.Errno) {
	if len(files) > api.MaxEntries {
		return nil, api.ErrMany
	}
	if e := checkNames(files); e != api.OK {
		return nil, e
	}
	if archiveSize(files) > api.MaxArchive {
		return nil, api.ErrLong
	}
	return archive(byName(files)), api.OK
}

// archiveSize is how many bytes the archive has. It is asked ahead of writing,
// so that nothing greater than an archive is ever made.
func archiveSize(files []api.File) int64 {
	size := int64(endSize)
	for _, f := range files {
		size += headSize + entrySize + 2*int64(len(f.Name)) + int64(len(f.Data))
	}
	return size
}

// archive is the archive of files that come by rising names.
func archive(files []api.File) []byte {
	two, four := lowFirst(2), lowFirst(4)
	var heads, entries []byte
	for _, f := range files {
		place, said := uint32(len(heads)), description(f)
		heads = append(heads, headMark...)
		heads = append(heads, said...)
		heads = append(heads, f.Name...)
		heads = append(heads, f.Data...)

		entries = two(append(entries, entryMark...), version)
		entries = append(entries, said...)
		entries = two(entries, 0, 0, 0)
		entries = append(four(entries, 0, place), f.Name...)
	}
	count := uint32(len(files))
	end := two([]byte(endMark), 0, 0, count, count)
	end = two(four(end, uint32(len(entries)), uint32(len(heads))), 0)
	return append(append(heads, entries...), end...)
}

// description is what a file's head and its entry in the second part both say.
func description(f api.File) []byte {
	two, four := lowFirst(2), lowFirst(4)
	length := uint32(len(f.Data))
	said := two(nil, version, 0, 0, 0, date)
	said = four(said, CRC(f.Data), length, length)
	return two(said, uint32(len(f.Name)), 0)
}

// lowFirst is a function that lays numbers of so many bytes behind b, the low
// one first.
func lowFirst(width int) func(b []byte, numbers ...uint32) []byte {
	return func(b []byte, numbers ...uint32) []byte {
		for _, number := range numbers {
			for i := range width {
				b = append(b, byte(number>>(8*i)))
			}
		}
		return b
	}
}
