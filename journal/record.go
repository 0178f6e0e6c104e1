package journal

import (
	"bytes"
	"slices"

	"mews/api"
	"mews/ark"
	"mews/fs"
)

// The kinds of records.
const (
	writeKind  = 1
	dropKind   = 2
	commitKind = 3
)

// How many bytes the numbers in a record have.
const (
	numberWidth = 4
	nameWidth   = 2
)

// How many bytes stand ahead of what a record says, and in that ahead of the name.
const (
	headSize  = 2 * numberWidth
	frontSize = 1 + nameWidth
)

// record is what one says. One that was read has data that are still a piece
// of the journal's bytes.
type record struct {
	kind byte
	name string
	data []byte
}

// Encode is a journal's bytes.
func Encode(l []Change) ([]byte, api.Errno) {
	if e := check(l); e != api.OK {
		return nil, e
	}
	var b []byte
	for _, c := range l {
		b = append(b, recordOf(c).bytes()...)
	}
	return append(b, commitOf(len(l)).bytes()...), api.OK
}

// check is why changes can't stand in one journal.
func check(l []Change) api.Errno {
	if len(l) > api.MaxChanges {
		return api.ErrMany
	}
	known := map[string]struct{}{}
	for _, c := range l {
		if !fs.Valid(c.Name) {
			return api.ErrName
		}
		if _, twice := known[c.Name]; twice {
			return api.ErrTwice
		}
		known[c.Name] = struct{}{}
	}
	return api.OK
}

// recordOf is a change's record.
func recordOf(c Change) record {
	if c.Drop {
		return record{kind: dropKind, name: c.Name}
	}
	return record{writeKind, c.Name, c.Data}
}

// commitOf is the record behind so many changes.
func commitOf(count int) record {
	return record{kind: commitKind, data: lowFirst(numberWidth, uint32(count))}
}

// bytes is a record as it stands in a journal.
func (r record) bytes() []byte {
	body := slices.Concat([]byte{r.kind}, lowFirst(nameWidth, uint32(len(r.name))), []byte(r.name), r.data)
	return slices.Concat(lowFirst(numberWidth, uint32(len(body))), lowFirst(numberWidth, ark.CRC(body)), body)
}

// Decode is the changes of a journal that was committed.
func Decode(b []byte) ([]Change, bool) {
	var l []Change
	for {
		r, rest, ok := cutRecord(b)
		if !ok {
			return nil, false
		}
		if r.kind == commitKind {
			return committed(l, r)
		}
		c, ok := r.change()
		if !ok {
			return nil, false
		}
		l, b = append(l, c), rest
	}
}

// committed is the changes ahead of a commit, if it is theirs.
func committed(l []Change, r record) ([]Change, bool) {
	want := commitOf(len(l))
	if r.name != want.name || !bytes.Equal(r.data, want.data) || check(l) != api.OK {
		return nil, false
	}
	return l, true
}

// cutRecord is the record that bytes begin with, and what stands behind it.
func cutRecord(b []byte) (r record, rest []byte, ok bool) {
	if len(b) < headSize {
		return record{}, nil, false
	}
	length, crc, behind := number(b[:numberWidth]), number(b[numberWidth:headSize]), b[headSize:]
	if uint64(length) > uint64(len(behind)) {
		return record{}, nil, false
	}
	body, rest := behind[:length], behind[length:]
	if ark.CRC(body) != crc {
		return record{}, nil, false
	}
	r, ok = readBody(body)
	return r, rest, ok
}

// readBody is what the bytes behind a record's head say.
func readBody(body []byte) (record, bool) {
	if len(body) < frontSize {
		return record{}, false
	}
	length, behind := int(number(body[1:frontSize])), body[frontSize:]
	if length > len(behind) {
		return record{}, false
	}
	return record{body[0], string(behind[:length]), behind[length:]}, true
}

// change is the change that a record says.
func (r record) change() (Change, bool) {
	switch {
	case r.kind == writeKind:
		return Change{Name: r.name, Data: bytes.Clone(r.data)}, true
	case r.kind == dropKind && len(r.data) == 0:
		return Change{Name: r.name, Drop: true}, true
	default:
		return Change{}, false
	}
}

// lowFirst is a number in so many bytes, the low one first.
func lowFirst(width int, n uint32) []byte {
	b := make([]byte, width)
	for i := range b {
		b[i] = byte(n >> (8 * i))
	}
	return b
}

// number is what bytes say, the low one first.
func number(b []byte) uint32 {
	var n uint32
	for i, c := range b {
		n |= uint32(c) << (8 * i)
	}
	return n
}
