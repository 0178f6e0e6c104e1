package mvs_test

import (
	"testing"

	"mews/api"
	"mews/mvs"
)

// says fails the test unless a Required says that of a module.
func says(t *testing.T, what string, req mvs.Required, m, want string, wantPruned bool) {
	t.Helper()
	l, pruned, e := req(word(m))
	isList(t, what+" of "+m, l, e, want)
	is(t, what+" of "+m+", pruned", pruned, wantPruned)
}

func TestWith(t *testing.T) {
	for _, given := range []string{"", "c1", "d0 c1 d0", "b0 main m.m/main@v1.0.0", "zz0"} {
		g := parse("main: b0 b0 c0; b0~: d1 d0; c0: d2; m.m/main@v1.0.0~: b0")
		req := mvs.With(main(), g.req, mods(given))
		says(t, "With "+given, req, "main", given, false)
		says(t, "With "+given, req, "b0", "d1 d0", true)
		says(t, "With "+given, req, "c0", "d2", false)
		says(t, "With "+given, req, "zz0", "", false)
		// Main's path at another version is another module.
		says(t, "With "+given, req, "m.m/main@v1.0.0", "b0", true)
		g.pruned[main()] = true
		says(t, "With "+given, mvs.With(main(), g.req, mods(given)), "main", given, true)
	}
	req := mvs.With(main(), parse("main: b0").req, nil)
	says(t, "With nil", req, "main", "", false)
	// Of another main it says nothing new.
	req = mvs.With(word("b0"), parse("main~: b0; b0~: c0").req, mods("d0"))
	says(t, "With of b0", req, "main", "b0", true)
	says(t, "With of b0", req, "b0", "d0", true)
}

func TestWith_Errors(t *testing.T) {
	req := mvs.With(main(), parse("main: b0 !25; b0: c0 !7").req, mods("d0"))
	for name, want := range map[string]api.Errno{"main": 25, "b0": 7} {
		l, pruned, e := req(word(name))
		isError(t, "With, of "+name, l, e, want)
		is(t, "With, pruned beside an error", pruned, false)
	}
	says(t, "With", req, "d0", "", false)
}

// One over another one.
func TestWith_Of(t *testing.T) {
	g := parse("main~: b0; b0: c0; c0~: d0")
	req := mvs.With(main(), mvs.With(word("b0"), mvs.With(main(), g.req, mods("e0")), mods("f0")), mods("g0 b0"))
	says(t, "With of With", req, "main", "g0 b0", true)
	says(t, "With of With", req, "b0", "f0", false)
	says(t, "With of With", req, "c0", "d0", true)
	for _, workers := range crews() {
		l, e := mvs.Build(main(), req, workers)
		isList(t, "Build of With of With", l, e, "main b0 f0 g0")
	}
}

// It asks only when it is asked.
func TestWith_AsksNothing(t *testing.T) {
	req, w := watched(parse(plain).req)
	with := mvs.With(main(), req, mods("b0"))
	asked, _ := w.all()
	is(t, "asked", asked, "")
	with(main())
	with(word("c0"))
	asked, total := w.all()
	is(t, "asked", asked, "c0 main")
	is(t, "how often", total, 2)
}
