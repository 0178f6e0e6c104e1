package cache_test

import (
	"cmp"
	"crypto/sha256"
	"fmt"
	"maps"
	"regexp"
	"slices"
	"strings"

	"mews/api"
	"mews/cache"
	"mews/fs"
	"mews/journal"
	"mews/mod"
)

// The model is a second reading of the chapter, by other means: it works on
// the files that there are, and tells what a call answers and what it changes.

var (
	upperForm = regexp.MustCompile(`[A-Z]`)
	sayForm   = regexp.MustCompile(`\A[0-9a-f]{64}\n\z`)
)

// modelDigits is the digits of some bytes.
func modelDigits(data string) string { return fmt.Sprintf("%x", sha256.Sum256([]byte(data))) }

// modelBlob is the blob of some bytes.
func modelBlob(data string) string { return dir + "/blob/" + modelDigits(data) }

// modelSay is what a name's file has that says the blob of some bytes.
func modelSay(data string) string { return modelDigits(data) + "\n" }

// modelEscape writes upper-case letters otherwise.
func modelEscape(s string) string {
	return upperForm.ReplaceAllStringFunc(s, func(u string) string { return "!" + strings.ToLower(u) })
}

// modelName is an entry's name.
func modelName(e cache.Entry) (string, api.Errno) {
	if !slices.Contains([]string{"info", "mod", "zip"}, e.Kind) {
		return "", api.ErrKind
	}
	if errno := mod.Check(e.Mod); errno != api.OK {
		return "", errno
	}
	name := fmt.Sprintf("%s/name/%s/@v/%s.%s", dir, modelEscape(e.Mod.Path), modelEscape(e.Mod.Version), e.Kind)
	if len(name) > 240 {
		return "", api.ErrName
	}
	return name, api.OK
}

// nameOf is the name of an entry that has one.
func nameOf(e cache.Entry) string {
	name, errno := modelName(e)
	if errno != api.OK {
		panic(fmt.Sprint("no name: ", e))
	}
	return name
}

// model is the files that there are, by name.
type model map[string]string

// modelOf is a file system's.
func modelOf(f *fs.FS) model {
	m := model{}
	for _, file := range f.Files() {
		m[file.Name] = string(file.Data)
	}
	return m
}

// modelFiles is files by rising names.
func modelFiles(m map[string]string) []api.File {
	var files []api.File
	for _, name := range slices.Sorted(maps.Keys(m)) {
		files = append(files, api.File{Name: name, Data: []byte(m[name])})
	}
	return files
}

// said is the digits that an entry's name says, if it does.
func (m model) said(e cache.Entry) string {
	text := m[nameOf(e)]
	if !sayForm.MatchString(text) {
		return ""
	}
	return text[:64]
}

// peek is Peek.
func (m model) peek(e cache.Entry) (string, api.Errno) {
	name, errno := modelName(e)
	if errno != api.OK {
		return "", errno
	}
	if _, there := m[name]; !there {
		return "", api.ErrNone
	}
	data, there := m[dir+"/blob/"+m.said(e)]
	if m.said(e) == "" || !there || modelDigits(data) != m.said(e) {
		return "", api.ErrCorrupt
	}
	return data, api.OK
}

// put is Put: its error, or else its changes.
func (m model) put(e cache.Entry, data string) (api.Errno, []journal.Change) {
	if _, errno := modelName(e); errno != api.OK {
		return errno, nil
	}
	if was, errno := m.peek(e); errno == api.OK {
		if was != data {
			return api.ErrMismatch, nil
		}
		return api.OK, nil
	}
	return api.OK, []journal.Change{
		{Name: nameOf(e), Data: []byte(modelSay(data))},
		{Name: modelBlob(data), Data: []byte(data)},
	}
}

// aside is what Get changes of a bad entry.
func (m model) aside(e cache.Entry) []journal.Change {
	l := []journal.Change{{Name: nameOf(e), Drop: true}}
	if data, there := m[dir+"/blob/"+m.said(e)]; there && m.said(e) != "" {
		l = append(l, journal.Change{Name: dir + "/blob/" + m.said(e), Drop: true})
		l = append(l, journal.Change{Name: dir + "/bad/" + m.said(e), Data: []byte(data)})
	}
	return l
}

// list is List: of these entries, those that are there.
func (m model) list(all []cache.Entry) []cache.Entry {
	var l []cache.Entry
	for _, e := range all {
		if name, errno := modelName(e); errno == api.OK {
			if _, there := m[name]; there && !slices.Contains(l, e) {
				l = append(l, e)
			}
		}
	}
	slices.SortFunc(l, func(a, b cache.Entry) int {
		return cmp.Or(cmp.Compare(a.Mod.Path, b.Mod.Path), mod.Compare(a.Mod.Version, b.Mod.Version), cmp.Compare(a.Kind, b.Kind))
	})
	return l
}

// bad is Bad.
func (m model) bad(all []cache.Entry) []cache.Entry {
	return slices.DeleteFunc(m.list(all), func(e cache.Entry) bool {
		_, errno := m.peek(e)
		return errno == api.OK
	})
}

// sweep is what Sweep changes.
func (m model) sweep(all, keep []cache.Entry) []journal.Change {
	var l []journal.Change
	var said []string
	for _, e := range m.list(all) {
		if slices.Contains(keep, e) {
			said = append(said, dir+"/blob/"+m.said(e))
		} else {
			l = append(l, journal.Change{Name: nameOf(e), Drop: true})
		}
	}
	for name := range m {
		if strings.HasPrefix(name, dir+"/blob/") && !slices.Contains(said, name) {
			l = append(l, journal.Change{Name: name, Drop: true})
		}
	}
	return l
}

// behind is the files behind changes.
func (m model) behind(l []journal.Change) model {
	m = maps.Clone(m)
	for _, c := range l {
		if c.Drop {
			delete(m, c.Name)
		} else {
			m[c.Name] = string(c.Data)
		}
	}
	return m
}

// need is how many bytes, and how many files, a transaction asks room for.
func need(f *fs.FS, l []journal.Change) (size, files int) {
	b, _ := journal.Encode(l)
	size, files = f.Size()+len(b), len(f.List(""))+1
	for _, c := range l {
		if !c.Drop {
			size, files = size+len(c.Data), files+1
		}
	}
	return size, files
}

// refusal is the journal's error of changes.
func refusal(f *fs.FS, l []journal.Change) api.Errno {
	if f.Down() {
		return api.ErrDown
	}
	if size, files := need(f, l); size > f.Quota() || files > api.MaxFiles {
		return api.ErrQuota
	}
	return api.OK
}
