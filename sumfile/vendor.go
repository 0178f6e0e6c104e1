package sumfile

import (
	"strings"

	"mews/api"
	"mews/mod"
)

// How the lines of a vendor list begin that are no packages.
const (
	mark       = "#"
	moduleHead = "# "
	explicit   = "## explicit"
)

// ParseVendor is the list of a text.
func ParseVendor(text string) ([]Vendored, int, api.Errno) {
	check := newVendorCheck()
	list, number, e := readLines(text, check.read)
	return vendorSorted(list), number, e
}

// FormatVendor is a list's text.
func FormatVendor(l []Vendored) (string, api.Errno) {
	check := newVendorCheck()
	for _, v := range l {
		if e := check.vendored(v); e != api.OK {
			return "", e
		}
	}
	return writeLines(vendorSorted(l), writeVendored)
}

func writeVendored(v Vendored) string {
	lines := []string{moduleHead + v.Mod.Path + " " + v.Mod.Version}
	if v.Explicit {
		lines = append(lines, explicit)
	}
	lines = append(lines, v.Packages...)
	return strings.Join(lines, "\n") + "\n"
}

// vendorSorted is the list in order, each list of packages in memory of its own.
func vendorSorted(l []Vendored) []Vendored {
	rising := sorted(l, func(a, b Vendored) int { return compareMods(a.Mod, b.Mod) })
	for i, v := range rising {
		rising[i].Packages = sorted(v.Packages, strings.Compare)
	}
	return rising
}

// vendorCheck looks at a vendor list's modules and packages, as they come.
type vendorCheck struct {
	modules  set[api.Mod]
	path     string      // the last module's
	packages set[string] // the last module's
}

func newVendorCheck() *vendorCheck { return &vendorCheck{modules: set[api.Mod]{}} }

// read adds to the list what a line says.
func (c *vendorCheck) read(list []Vendored, line string) ([]Vendored, api.Errno) {
	if m, ok := readModule(line); ok {
		return append(list, Vendored{Mod: m}), c.module(m)
	}
	if len(list) == 0 {
		return nil, api.ErrSyntax
	}
	last := &list[len(list)-1]
	switch {
	case line == explicit && justBegun(*last):
		last.Explicit = true
		return list, api.OK
	case line != "" && !strings.HasPrefix(line, mark):
		last.Packages = append(last.Packages, line)
		return list, c.imported(line)
	}
	return nil, api.ErrSyntax
}

func readModule(line string) (api.Mod, bool) {
	behind, ok := strings.CutPrefix(line, moduleHead)
	all, two := pieces(behind, 2)
	if !ok || !two {
		return api.Mod{}, false
	}
	return api.Mod{Path: all[0], Version: all[1]}, true
}

// justBegun tells whether nothing but the module's own line has been read of it.
func justBegun(v Vendored) bool { return !v.Explicit && len(v.Packages) == 0 }

// vendored is the first error of an element.
func (c *vendorCheck) vendored(v Vendored) api.Errno {
	if e := c.module(v.Mod); e != api.OK {
		return e
	}
	for _, path := range v.Packages {
		if e := c.imported(path); e != api.OK {
			return e
		}
	}
	return api.OK
}

// module looks at a module; the packages that come now are its own.
func (c *vendorCheck) module(m api.Mod) api.Errno {
	if e := mod.Check(m); e != api.OK {
		return e
	}
	if c.modules.has(m) {
		return api.ErrTwice
	}
	c.modules.add(m)
	c.path, c.packages = m.Path, set[string]{}
	return api.OK
}

// imported looks at a package of the last module.
func (c *vendorCheck) imported(path string) api.Errno {
	if e := mod.CheckImport(path); e != api.OK {
		return e
	}
	if path != c.path && !strings.HasPrefix(path, c.path+"/") {
		return api.ErrForm
	}
	if c.packages.has(path) {
		return api.ErrTwice
	}
	c.packages.add(path)
	return api.OK
}
