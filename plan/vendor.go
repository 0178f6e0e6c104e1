package plan

import (
	"bytes"
	"slices"
	"strings"

	"mews/api"
	"mews/modfile"
	"mews/scan"
	"mews/sumfile"
)

// vendorList is the name of the vendored tree's list.
const vendorList = "modules.txt"

// Vendor is the vendored tree.
func Vendor(p Project, need []sumfile.Vendored, u Universe, tags []string) ([]api.File, api.Errno) {
	f, _, e := modfile.Parse(p.Manifest)
	if e != api.OK {
		return nil, e
	}
	return vendorOf(f, need, careful{u}, tags)
}

// vendorOf is the vendored tree, where a manifest is main's.
func vendorOf(f modfile.File, need []sumfile.Vendored, u Universe, tags []string) ([]api.File, api.Errno) {
	var tree []api.File
	for _, v := range need {
		files, e := vendorModule(f, v, u, tags)
		if e != api.OK {
			return nil, e
		}
		tree = append(tree, files...)
	}
	list, e := sumfile.FormatVendor(need)
	if e != api.OK {
		return nil, e
	}
	tree = append(tree, api.File{Name: vendorList, Data: []byte(list)})
	slices.SortStableFunc(tree, func(a, b api.File) int { return strings.Compare(a.Name, b.Name) })
	return tree, api.OK
}

// vendorModule is the files of a module's packages.
func vendorModule(f modfile.File, v sumfile.Vendored, u Universe, tags []string) ([]api.File, api.Errno) {
	files, e := u.Tree(modfile.Replaced(f, v.Mod))
	if e != api.OK {
		return nil, e
	}
	within := byDir(files)
	var list []api.File
	for _, path := range v.Packages {
		dir, inside := dirOf(v.Mod.Path, path)
		if !inside {
			continue
		}
		of, e := vendorPackage(within[dir], path, tags)
		if e != api.OK {
			return nil, e
		}
		list = append(list, of...)
	}
	return list, api.OK
}

// vendorPackage is those of a directory's files that its package has.
func vendorPackage(files []api.File, path string, tags []string) ([]api.File, api.Errno) {
	var list []api.File
	for _, file := range files {
		_, base := split(file.Name)
		if !scan.Name(base, tags) {
			continue
		}
		source, _, e := scan.Read(string(file.Data))
		if e != api.OK {
			return nil, e
		}
		if allows(source.Constraint, tags) {
			list = append(list, api.File{Name: path + "/" + base, Data: bytes.Clone(file.Data)})
		}
	}
	return list, api.OK
}

// allows tells whether a constraint, if there is one, is true.
func allows(constraint string, tags []string) bool {
	if constraint == "" {
		return true
	}
	holds, _ := scan.Eval(constraint, tags)
	return holds
}
