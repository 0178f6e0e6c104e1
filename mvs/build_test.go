package mvs_test

import (
	"fmt"
	"testing"

	"mews/api"
	"mews/mvs"
)

// builds fails the test unless Build answers these modules, behind main.
func builds(t *testing.T, text, want string) {
	t.Helper()
	for _, workers := range crews() {
		l, e := mvs.Build(main(), parse(text).req, workers)
		isList(t, fmt.Sprintf("Build of %s, %d workers", text, workers), l, e, want)
	}
}

func TestP15_2_Build(t *testing.T) {
	builds(t, "", "main")
	builds(t, "main~:", "main")
	builds(t, "main: main m.m/main@v1.0.0 m.m/main@v9.9.9", "main")
	builds(t, "main: b0", "main b0")
	builds(t, "main: b0 b0", "main b0")
	builds(t, "main: d0 c0 b0", "main b0 c0 d0")
	builds(t, "main: b0 b2 b1", "main b2")
	builds(t, "main: b0 c0; c0: b1", "main b1 c0")
	builds(t, "main: b1 c0; c0: b0", "main b1 c0")
	builds(t, plain, "main b0 c0 d2")
	// In rings the greatest that comes round.
	builds(t, "main: b0; b0: c0; c0: b1; b1: c1; c1: b0", "main b1 c1")
	builds(t, "main: b0; b0: b1; b1: b2; b2: b0", "main b2")
	// What a lesser one requires counts all the same.
	builds(t, "main: b0 c0; b0: d5; c0: b1; b1: d1", "main b1 c0 d5")
	builds(t, "main: b0 c0; b0: e0; c0: b1; e0: f3", "main b1 c0 e0 f3")
	// What is reached, and not asked, counts; what it requires doesn't.
	builds(t, "main~: b0 c0; b0~: c3; c3: d0", "main b0 c3")
	builds(t, "main~: b0 c0; b0: c3; c3: d0", "main b0 c3 d0")
	builds(t, "main: b0 c0; b0~: c3; c3: d0", "main b0 c3 d0")
}

// The greatest is the one by mod.Compare.
func TestP15_2_Greatest(t *testing.T) {
	rising := mods("a.x/b@v0.9.0 a.x/b@v0.10.0 a.x/b@v1.0.0-2 a.x/b@v1.0.0-10 a.x/b@v1.0.0-a a.x/b@v1.0.0-a.b b0 a.x/b@v1.0.9 a.x/b@v1.0.10 b9 b10")
	for i, a := range rising {
		for k, b := range rising {
			want := "main " + short(rising[max(i, k)])
			builds(t, "main: "+short(a)+" "+short(b), want)
			builds(t, "main: "+short(a)+"; "+short(a)+": "+short(b), want)
		}
	}
}

// Main stands first, wherever its path would; the others by rising paths, byte
// by byte, and each path by itself.
func TestP15_2_Order(t *testing.T) {
	builds(t, "main: z.z@v1.0.0 m.m/main/x@v1.0.0 b0 m.m@v1.0.0", "main b0 m.m@v1.0.0 m.m/main/x@v1.0.0 z.z@v1.0.0")
	builds(t, "main: a.x/b/v2@v2.0.0 a.x/b/v2@v2.1.0 b5 b4 a.x/b-@v1.0.0 a.x/bb@v1.0.0 a.x/B@v1.0.0", "main a.x/B@v1.0.0 b5 a.x/b-@v1.0.0 a.x/b/v2@v2.1.0 bb0")
	for _, path := range []string{"a.a", "n", "work", "z.z/z", ""} {
		first := api.Mod{Path: path}
		req := func(m api.Mod) ([]api.Mod, bool, api.Errno) {
			if m == first {
				return mods("c0 b0"), false, api.OK
			}
			return []api.Mod{{Path: path, Version: "v1.0.0"}}, false, api.OK
		}
		l, e := mvs.Build(first, req, 2)
		is(t, "main "+path+", error", e, api.OK)
		is(t, "main "+path+", length", len(l), 3)
		is(t, "main "+path, l[0], first)
		is(t, "main "+path+", the others", told(l[1:]), "b0 c0")
	}
}

func TestP15_2_Errors(t *testing.T) {
	for _, text := range []string{"main: !25", "main: b0; b0: !25", "main: c0 b0; b0: !25; c0: !1", "main: c0 b0; c0: d0 !25; d0: !1"} {
		for _, workers := range crews() {
			l, e := mvs.Build(main(), parse(text).req, workers)
			isError(t, "Build of "+text, l, e, 25)
		}
	}
}
