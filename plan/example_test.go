package plan_test

import (
	"strings"
	"testing"

	"mews/api"
	"mews/plan"
)

// exampleUniverse is the chapter's.
func exampleUniverse(t testing.TB) *plan.Still {
	t.Helper()
	return stillOf(t, []plan.Sold{
		{Mod: word("b0"), Manifest: []byte("module a.x/b\nrequire a.x/d v1.0.0\n"), Files: []api.File{file("b.go", "package b\nimport \"a.x/d\"\n")}},
		{Mod: word("d0"), Manifest: []byte("module a.x/d\n"), Files: []api.File{file("d.go", "package d\n")}},
		{Mod: word("d1"), Manifest: []byte("module a.x/d\n"), Files: []api.File{file("d.go", "package d\n")}},
	})
}

// example is the chapter's project.
func example() plan.Project {
	return plan.Project{Manifest: "module m.n/p\nrequire a.x/b v1.0.0\n", Sources: []api.File{file("p.go", "package p\nimport \"a.x/b\"\n")}}
}

func TestExamples(t *testing.T) {
	u, p := exampleUniverse(t), example()
	for _, w := range crews() {
		l, e := plan.List(p, u, w)
		is(t, "List, error", e, api.OK)
		is(t, "List", told(l), "main b0 d0")
		n, e := plan.Needed(p, u, nil, w)
		is(t, "Needed, error", e, api.OK)
		is(t, "Needed", toldNeeded(n), "b0*: a.x/b; d0: a.x/d")
	}
	tidy := makes(t, p, "tidy", u, "b0", "b0 d0")
	is(t, "CTidy, lines", strings.Count(tidy.Lock, "\n"), 4)
	is(t, "CTidy, the manifest", tidy.Manifest, "module m.n/p\n\nrequire (\n\ta.x/b v1.0.0\n)\n")
	makes(t, p, "get d", u, "b0 d1", "b0 d1")
	v := makes(t, p, "vendor", u, "b0", "b0 d0")
	is(t, "CVendor", names(v.Vendor), "a.x/b/b.go a.x/d/d.go modules.txt")
	is(t, "CVendor, the list", string(v.Vendor[2].Data), "# a.x/b v1.0.0\n## explicit\na.x/b\n# a.x/d v1.0.0\na.x/d\n")
	is(t, "CVendor, a file", string(v.Vendor[0].Data), "package b\nimport \"a.x/d\"\n")
	makesNot(t, p, "get e", u, api.ErrNone)
	makesNot(t, p, "get main", u, api.ErrThere)
	makesNot(t, p, "downgrade b v2.0.0", u, api.ErrMajor)
	p.Sources = []api.File{file("p.go", "package p\nimport \"a.x/z\"\n")}
	makesNot(t, p, "tidy", u, api.ErrMissing)
}
