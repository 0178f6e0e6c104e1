package proxy

import (
	"mews/api"
	"mews/mod"
)

// What is told of a module at a version.
const (
	kindInfo     = "info"
	kindManifest = "mod"
	kindZip      = "zip"
)

// What stands behind a path in a URL.
const (
	versionMark = "/@v/"
	listTail    = versionMark + "list"
	latestTail  = "/@latest"
)

// URL is where something of a module stands.
func (c *Client) URL(m api.Mod, kind string) (string, api.Errno) {
	if e := mod.Check(m); e != api.OK {
		return "", e
	}
	switch kind {
	case kindInfo, kindManifest, kindZip:
		// What Check takes, Escape takes.
		version, _ := mod.Escape(m.Version)
		return pathURL(m.Path, versionMark+version+"."+kind)
	default:
		return "", api.ErrKind
	}
}

// pathURL is where something of a path stands.
func pathURL(path, tail string) (string, api.Errno) {
	if e := mod.CheckPath(path); e != api.OK {
		return "", e
	}
	// What CheckPath takes, Escape takes.
	escaped, _ := mod.Escape(path)
	return "/" + escaped + tail, api.OK
}
