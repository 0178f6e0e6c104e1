package mvs_test

import (
	"testing"

	"mews/api"
	"mews/mvs"
)

// plain is the chapter's graph.
const plain = "main: b0 c0; b0: d1; c0: d2; c1: d3"

func TestExamples(t *testing.T) {
	// The chapter's own names, in full, once.
	l, e := mvs.Build(main(), parse(plain).req, 1)
	is(t, "Build, error", e, api.OK)
	is(t, "Build, length", len(l), 4)
	for i, want := range []api.Mod{{Path: "m.m/main"}, {Path: "a.x/b", Version: "v1.0.0"}, {Path: "a.x/c", Version: "v1.0.0"}, {Path: "a.x/d", Version: "v1.2.0"}} {
		is(t, "Build", l[i], want)
	}
	for _, w := range crews() {
		l, e := mvs.Build(main(), parse(plain).req, w)
		isList(t, "Build", l, e, "main b0 c0 d2")
		l, e = mvs.Reached(main(), parse(plain).req, w)
		isList(t, "Reached", l, e, "b0 c0 d1 d2")
		l, e = mvs.Upgrade(main(), parse(plain).req, mods("c1"), w)
		isList(t, "Upgrade", l, e, "main b0 c1 d3")
		l, e = mvs.Downgrade(main(), parse(plain).req, mods("d1"), none, w)
		isList(t, "Downgrade", l, e, "main b0 d1")
		l, e = mvs.Minimal(main(), parse(plain).req, []string{"a.x/b"}, w)
		isList(t, "Minimal", l, e, "b0 c0")
		l, e = mvs.Build(main(), parse("main~: b0 c0; b0~: d1; c0~: d2; c1: d3; d2: e0").req, w)
		isList(t, "Build, pruned", l, e, "main b0 c0 d2")
	}
}
