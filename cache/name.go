package cache

import (
	"strings"

	"mews/api"
	"mews/ark"
	"mews/fs"
	"mews/mod"
)

// The parts of a cache's directory.
const (
	namePart = "/name"
	blobPart = "/blob"
	badPart  = "/bad"
)

// versionMark stands between path and version.
const versionMark = "/@v/"

// What a name's file has.
const (
	digitCount = 64
	lineEnd    = "\n"
)

// mayBe is why an entry may not be.
func mayBe(e Entry) api.Errno {
	switch e.Kind {
	case "mod", "zip", "info":
		return mod.Check(e.Mod)
	default:
		return api.ErrKind
	}
}

// NameOf is the file of an entry's name.
func (c *Cache) NameOf(e Entry) (string, api.Errno) {
	if errno := mayBe(e); errno != api.OK {
		return "", errno
	}
	// What Check takes, Escape takes.
	path, _ := mod.Escape(e.Mod.Path)
	version, _ := mod.Escape(e.Mod.Version)
	name := c.dir + namePart + "/" + path + versionMark + version + "." + e.Kind
	if !fs.Valid(name) {
		return "", api.ErrName
	}
	return name, api.OK
}

// entryOf is the entry whose name a file is.
func (c *Cache) entryOf(file string) (Entry, bool) {
	path, behind, _ := strings.Cut(strings.TrimPrefix(file, c.dir+namePart+"/"), versionMark)
	dot := strings.LastIndexByte(behind, '.')
	if dot < 0 {
		return Entry{}, false
	}
	// What Unescape refuses is empty, and no module has an empty path or version.
	path, _ = mod.Unescape(path)
	version, _ := mod.Unescape(behind[:dot])
	e := Entry{api.Mod{Path: path, Version: version}, behind[dot+1:]}
	if name, errno := c.NameOf(e); errno != api.OK || name != file {
		return Entry{}, false
	}
	return e, true
}

// BlobOf is the file of some bytes.
func (c *Cache) BlobOf(data []byte) string { return c.blobFile(digitsOf(data)) }

// digitsOf is the digits that say some bytes.
func digitsOf(data []byte) string { return ark.Hex(ark.SHA256(data)) }

// blobFile is the file of the blob that digits say.
func (c *Cache) blobFile(digits string) string { return c.dir + blobPart + "/" + digits }

// badFile is where a blob stands that does not have its hash any more.
func (c *Cache) badFile(digits string) string { return c.dir + badPart + "/" + digits }

// said is the digits of the blob that a name's file says.
func (c *Cache) said(name string) (string, bool) {
	text, _ := c.f.Read(name)
	digits, ended := strings.CutSuffix(string(text), lineEnd)
	if !ended || len(digits) != digitCount || strings.ContainsFunc(digits, noDigit) {
		return "", false
	}
	return digits, true
}

// noDigit tells whether something is none of the digits that say a blob.
func noDigit(r rune) bool { return (r < '0' || r > '9') && (r < 'a' || r > 'f') }

// blobSaid is the blob that a name's file says, whatever its bytes are, if it
// says one and that is there.
func (c *Cache) blobSaid(name string) (digits string, data []byte, there bool) {
	digits, says := c.said(name)
	if !says {
		return "", nil, false
	}
	data, errno := c.f.Read(c.blobFile(digits))
	if errno != api.OK {
		return "", nil, false
	}
	return digits, data, true
}
