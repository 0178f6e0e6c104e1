package proxy

import (
	"slices"
	"strings"

	"mews/api"
	"mews/ark"
	"mews/mod"
	"mews/modfile"
)

// fetched is what a check makes of what stands at a URL, if it takes it.
func fetched[T any](c *Client, url string, check func(b []byte) (T, bool)) (T, api.Errno) {
	var nothing T
	b, e := c.Fetch(url)
	if e != api.OK {
		return nothing, e
	}
	made, ok := check(b)
	if !ok {
		return nothing, api.ErrReply
	}
	return made, api.OK
}

// List tells a module's versions.
func (c *Client) List(path string) ([]string, api.Errno) {
	url, e := pathURL(path, listTail)
	if e != api.OK {
		return nil, e
	}
	return fetched(c, url, func(b []byte) ([]string, bool) {
		if len(b) > api.MaxText || slices.ContainsFunc(b, strange) {
			return nil, false
		}
		return versions(string(b), path), true
	})
}

// strange tells whether a byte may not be in a list.
func strange(c byte) bool { return c != '\n' && (c < 0x21 || c > 0x7e) }

// versions is those lines of a text that are a path's versions, rising.
func versions(text, path string) []string {
	var l []string
	for _, line := range strings.Split(text, "\n") {
		if _, _, _, pseudo := mod.SplitPseudo(line); !pseudo && mod.Matches(line, path) {
			l = append(l, line)
		}
	}
	return slices.Compact(mod.Sort(l))
}

// Info is a version's info.
func (c *Client) Info(m api.Mod) (Info, api.Errno) {
	url, e := c.URL(m, kindInfo)
	if e != api.OK {
		return Info{}, e
	}
	return fetched(c, url, infoThat(func(version string) bool { return version == m.Version }))
}

// Latest is the info of the latest version.
func (c *Client) Latest(path string) (Info, api.Errno) {
	url, e := pathURL(path, latestTail)
	if e != api.OK {
		return Info{}, e
	}
	return fetched(c, url, infoThat(func(version string) bool { return mod.Matches(version, path) }))
}

// infoThat checks an info, its version by a function.
func infoThat(fits func(version string) bool) func(b []byte) (Info, bool) {
	return func(b []byte) (Info, bool) {
		i, e := ParseInfo(b)
		return i, e == api.OK && fits(i.Version)
	}
}

// Manifest is a module's manifest.
func (c *Client) Manifest(m api.Mod) ([]byte, api.Errno) {
	url, e := c.URL(m, kindManifest)
	if e != api.OK {
		return nil, e
	}
	return fetched(c, url, func(b []byte) ([]byte, bool) {
		f, _, e := modfile.Parse(string(b))
		return b, e == api.OK && f.Module == m.Path
	})
}

// archive is a module's archive, and its files.
type archive struct {
	data  []byte
	files []api.File
}

// Zip is a module's archive, and its files.
func (c *Client) Zip(m api.Mod) ([]byte, []api.File, api.Errno) {
	url, e := c.URL(m, kindZip)
	if e != api.OK {
		return nil, nil, e
	}
	a, e := fetched(c, url, func(b []byte) (archive, bool) {
		files, ok := opened(b, m)
		return archive{b, files}, ok
	})
	return a.data, a.files, e
}

// opened is the files of a module's archive, by their names in the module.
func opened(b []byte, m api.Mod) ([]api.File, bool) {
	files, e := ark.Unpack(b)
	if e != api.OK {
		return nil, false
	}
	files, e = ark.Strip(files, m)
	return files, e == api.OK
}
