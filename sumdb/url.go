package sumdb

import (
	"mews/api"
	"mews/mod"
	"mews/tlog"
)

const (
	lookupHead = "/lookup/"
	latestURL  = "/latest"
)

// URL is where a module's lookup stands.
func URL(m api.Mod) (string, api.Errno) {
	if e := mod.Check(m); e != api.OK {
		return "", e
	}
	// What Check takes, Escape takes.
	path, _ := mod.Escape(m.Path)
	version, _ := mod.Escape(m.Version)
	return lookupHead + path + "@" + version, api.OK
}

// tileURL is where a tile stands.
func tileURL(t tlog.Tile) string { return "/" + must(tlog.Path(t)) }
