package mvs_test

import (
	"fmt"
	"strings"
	"testing"

	"mews/api"
	"mews/mvs"
)

// versionsOf is what says the version ahead, of a text like `b2>b1 b1>b0`, and
// keeps what it was asked.
func versionsOf(text string, asked *[]api.Mod) mvs.Previous {
	says := map[api.Mod]api.Mod{}
	for _, x := range strings.Fields(text) {
		from, to, _ := strings.Cut(x, ">")
		says[word(from)] = word(to)
	}
	return func(m api.Mod) (string, bool) {
		*asked = append(*asked, m)
		to, there := says[m]
		return to.Version, there
	}
}

// downgrades fails the test unless Downgrade answers these modules, with
// versions ahead that a text says, of which those are asked for.
func downgrades(t *testing.T, text, down, ahead, want, wantAsked string) {
	t.Helper()
	for _, workers := range crews() {
		var asked []api.Mod
		l, e := mvs.Downgrade(main(), parse(text).req, mods(down), versionsOf(ahead, &asked), workers)
		what := fmt.Sprintf("Downgrade of %s to %s, %d workers", text, down, workers)
		isList(t, what, l, e, want)
		is(t, what+", the ones ahead of which were asked for", told(asked), wantAsked)
	}
}

// downgradesNot fails the test unless Downgrade answers an error.
func downgradesNot(t *testing.T, text, down, ahead string, want api.Errno) {
	t.Helper()
	for _, workers := range crews() {
		var asked []api.Mod
		l, e := mvs.Downgrade(main(), parse(text).req, mods(down), versionsOf(ahead, &asked), workers)
		isError(t, fmt.Sprintf("Downgrade of %.60s to %s, %d workers", text, down, workers), l, e, want)
	}
}

func TestP15_4_Nothing(t *testing.T) {
	downgrades(t, "", "", "", "main", "")
	downgrades(t, plain, "", "c0>c1", "main b0 c0 d2", "")
	downgrades(t, "main: b0; b0: c1; c1: b1", "", "", "main b1 c1", "")
	// What is lesser is reached no more.
	downgrades(t, "main: b0 c0; b0: d5; c0: b1", "", "", "main b1 c0 d5", "")
	downgrades(t, "main~: b0; b0~: c0; c0~: d0", "", "", "main b0 c0 d0", "")
}

func TestP15_4_Caps(t *testing.T) {
	// Its own version.
	downgrades(t, "main: b2", "b1", "", "main b1", "")
	downgrades(t, "main: b2", "b2", "", "main b2", "")
	downgrades(t, "main: b10 c0", "b9", "", "main b9 c0", "")
	downgrades(t, "main: b2; b2: c2; b1: c1", "b1", "", "main b1 c2", "")
	downgrades(t, "main: b2; b2: c2; b1: c1", "b1 c0", "", "main c0", "b1")
	// A greater one than the list's says nothing.
	downgrades(t, "main: b2", "b3", "", "main b2", "")
	downgrades(t, "main: b0 c1; c0: b3", "b5 c0", "", "main b0", "c0")
	downgrades(t, "main: b0 c1; c0: b3", "c0", "", "main b0", "c0")
	// Of a path that the list has not it says nothing.
	downgrades(t, plain, "zz0", "", "main b0 c0 d2", "")
	downgrades(t, "main: b1; b0: z5", "b0 z0", "", "main b0 z5", "")
	downgrades(t, "main: b1; b0: z5", "z0 b0", "", "main b0 z5", "")
	// The same path twice: the least.
	downgrades(t, "main: b5", "b3 b1 b2", "", "main b1", "")
	downgrades(t, "main: b5", "b1 b3", "", "main b1", "")
	downgrades(t, "main: b5", "b1 b9 b1", "", "main b1", "")
	downgrades(t, "main: b11", "b10 b9", "", "main b9", "")
	downgrades(t, "main: b0 c0", "b0 a.x/b@v1.0.0-rc a.x/b@v1.0.0-rc.1", "", "main a.x/b@v1.0.0-rc c0", "")
	// What requires more goes, or goes down.
	downgrades(t, plain, "d1", "", "main b0 d1", "c0")
	downgrades(t, plain, "d0", "", "main d0", "b0 c0")
	downgrades(t, plain, "d1", "c0>a.x/c@v0.9.0", "main b0 a.x/c@v0.9.0 d1", "c0")
	// What a path without a cap has may be any version.
	downgrades(t, "main: b1; b0: z5; z5: y9", "b0", "", "main b0 y9 z5", "")
	// Main's path has no version that could be less.
	for _, down := range []string{"main", "m.m/main@v1.0.0", "m.m/main@v0.0.0-0", "main main"} {
		downgrades(t, plain, down, "", "main b0 c0 d2", "")
		downgrades(t, "main: b0; b0: main m.m/main@v2.0.0", down, "", "main b0", "")
	}
}

func TestP15_4_NoneAtAll(t *testing.T) {
	downgrades(t, plain, "b-", "", "main c0 d2", "")
	downgrades(t, plain, "c-", "", "main b0 d2", "")
	downgrades(t, plain, "d-", "", "main", "b0 c0")
	downgrades(t, plain, "b- c- d-", "", "main", "")
	downgrades(t, plain, "d-", "c0>a.x/c@v0.9.0 b0>a.x/b@v0.8.0", "main a.x/b@v0.8.0 a.x/c@v0.9.0", "b0 c0")
	// Also beside others of its path, in whatever order.
	downgrades(t, plain, "d- d1", "", "main", "b0 c0")
	downgrades(t, plain, "d1 d-", "", "main", "b0 c0")
	downgrades(t, plain, "d9 d- d0", "", "main", "b0 c0")
	downgrades(t, plain, "d- d-", "", "main", "b0 c0")
	// No version, however low, is below it.
	downgrades(t, "main: b1 c0; c0: a.x/b@v0.0.0-0", "b-", "", "main", "c0")
	// Of a path that the list has not.
	downgrades(t, plain, "zz-", "", "main b0 c0 d2", "")
	downgrades(t, "main: b1; b0: z5", "z- b0", "", "main", "b0")
	downgrades(t, "main: b1; b0: z5", "b0 z-", "", "main", "b0")
	downgrades(t, "main: b1; b0: z5", "b0 z- z9", "", "main", "b0")
	downgrades(t, "main: b1; b0: z5", "b0 z9 z-", "", "main", "b0")
	downgrades(t, "main: b2; b1: z5; b0: z0", "b1 z-", "b1>b0 b0>a.x/b@v0.9.0", "main a.x/b@v0.9.0", "b1 b0")
}

func TestP15_4_Fits(t *testing.T) {
	// Its own path, come round.
	downgrades(t, "main: b2; b1: c0; c0: b2", "b1", "b1>b0", "main b0", "b1")
	downgrades(t, "main: b2; b1: b2", "b1", "", "main", "b1")
	// Deep below.
	downgrades(t, "main: b1 f1; b1: c0; c0: d0; d0: e0; e0: f1; b0: c0", "f0", "b1>b0", "main f0", "b1 b0 c0 d0 e0")
	// Each by itself: of what others require it knows nothing.
	downgrades(t, "main: b0 c0 d1; b0: d1; c0: d0", "d0", "", "main c0 d0", "b0")
	// At a path's own version, or a lesser one, it fits.
	downgrades(t, "main: b0 c2; b0: c1", "c1", "", "main b0 c1", "")
	downgrades(t, "main: b0 c2; b0: c1", "c0", "", "main c0", "b0")
	// Versions go by mod.Compare.
	downgrades(t, "main: b0 c10; b0: c9", "c9", "", "main b0 c9", "")
	downgrades(t, "main: b0 c10; b0: c10", "c9", "", "main c9", "b0")
	downgrades(t, "main: b0 c1; b0: a.x/c@v1.1.0-rc", "a.x/c@v1.1.0-rc", "", "main b0 a.x/c@v1.1.0-rc", "")
}

func TestP15_4_Previous(t *testing.T) {
	// One that says nothing; the same; a greater one.
	chain := "main: b3 c3; b3: c3; b2: c2; b1: c1; b0: c0"
	downgrades(t, chain, "c0", "", "main c0", "b3")
	downgrades(t, chain, "c0", "b3>b3", "main c0", "b3")
	downgrades(t, chain, "c0", "b3>b4 b4>b0", "main c0", "b3")
	downgrades(t, chain, "c0", "b3>b2 b2>b10 b10>b0", "main c0", "b3 b2")
	downgrades(t, chain, "c0", "b3>b2 b2>b2", "main c0", "b3 b2")
	// A chain, up to the first that fits.
	downgrades(t, chain, "c2", "b3>b2 b2>b1 b1>b0", "main b2 c2", "b3")
	downgrades(t, chain, "c1", "b3>b2 b2>b1 b1>b0", "main b1 c1", "b3 b2")
	downgrades(t, chain, "c0", "b3>b2 b2>b1 b1>b0", "main b0 c0", "b3 b2 b1")
	downgrades(t, chain, "c0", "b3>b0", "main b0 c0", "b3")
	downgrades(t, chain, "c0", "b3>b1 b2>b0", "main c0", "b3 b1")
	// One that never fits.
	downgrades(t, chain, "a.x/c@v0.9.0", "b3>b2 b2>b1 b1>b0", "main a.x/c@v0.9.0", "b3 b2 b1 b0")
	downgrades(t, chain, "c-", "b3>b2 b2>b1 b1>b0 b0>a.x/b@v0.1.0", "main a.x/b@v0.1.0", "b3 b2 b1 b0")
	// From its cap on, not from its version.
	downgrades(t, chain, "b1 c0", "b3>b2 b2>a.x/b@v0.9.0 b1>b0", "main b0 c0", "b1")
	downgrades(t, chain, "b2 c2", "b2>b1", "main b2 c2", "")
	// By rising paths, each until it fits.
	downgrades(t, "main: d1 c1 b1 z1; b1: z1; c1: z1; d1: z1", "z0", "c1>c0 d1>d0 d0>a.x/d@v0.9.0", "main c0 d0 z0", "b1 c1 d1")
	// Less by mod.Compare.
	downgrades(t, "main: b10 c1; b10: c1; b9: c0", "c0", "b10>b9", "main b9 c0", "b10")
	downgrades(t, "main: b9 c1; b9: c1; b10: c0", "c0", "b9>b10", "main c0", "b9")
	downgrades(t, "main: b1 c1; b1: c1", "c0", "b1>a.x/b@v1.1.0-rc.1", "main a.x/b@v1.1.0-rc.1 c0", "b1")
	// What is no version is none.
	for _, none := range []string{"", "x", "v", "v1", "v01.0.0", "v0.9"} {
		for _, workers := range crews() {
			l, e := mvs.Downgrade(main(), parse(chain).req, mods("c0"), func(api.Mod) (string, bool) { return none, true }, workers)
			isList(t, "Downgrade with the version ahead "+none, l, e, "main c0")
		}
	}
	// So a chain of texts without an end has one.
	l, e := mvs.Downgrade(main(), parse(chain).req, mods("c0"), func(m api.Mod) (string, bool) { return "a" + m.Version, true }, 2)
	isList(t, "Downgrade with texts that ever fall", l, e, "main c0")
	// A text beside a false is nothing.
	l, e = mvs.Downgrade(main(), parse(chain).req, mods("c0"), func(m api.Mod) (string, bool) { return "v1.0.0", false }, 2)
	isList(t, "Downgrade with a text beside false", l, e, "main c0")
}

// All of the list that fits is kept, not only what main requires.
func TestP15_4_Kept(t *testing.T) {
	downgrades(t, "main: b1; b1: c1; c1: d1; b0:", "b0", "", "main b0 c1 d1", "")
	downgrades(t, "main: b1; b1: c1; c1: d1; b0:", "b-", "", "main c1 d1", "")
	downgrades(t, "main: b1; b1: c1; c1: d1; b0:", "c-", "", "main d1", "b1")
	downgrades(t, "main: b1; b1: c1; c1: d1; b0:", "c- b0", "", "main b0 d1", "")
	// What is kept brings what it requires along.
	downgrades(t, "main: b1; b0: e1 f0; e1: f2", "b0", "", "main b0 e1 f2", "")
}

func TestP15_4_Pruned(t *testing.T) {
	chain := "main~: b0; b0~: c0; c0: d2"
	downgrades(t, chain, "", "", "main b0 c0 d2", "")
	// What the list has not has no cap, but for none at all.
	downgrades(t, chain, "d1", "", "main b0 c0 d2", "")
	downgrades(t, chain, "d-", "", "main b0 c0", "c0")
	downgrades(t, chain, "d-", "c0>a.x/c@v0.9.0", "main b0 c0", "c0")
	// A module alone is deep, and those that it leads to are as main and it are.
	downgrades(t, "main~: b0 c0 d0; b0~: c0; c0~: d0; d0: e1", "e-", "", "main b0 c0 d0", "d0")
	downgrades(t, "main~: b0 c0; b0: c0; c0: e1", "e0", "", "main e0", "b0 c0")
	downgrades(t, "main~: b0 e1; b0~: c0; c0: e1", "e0", "", "main b0 c0 e0", "c0")
	downgrades(t, "main: b0 e1; b0~: c0; c0: e1", "e0", "", "main e0", "b0 c0")
	// Above a cap also where nothing is to be lowered.
	downgrades(t, "main~: b0 d0; b0~: c0; c0~: d1; d1: e0", "", "", "main b0 c0 d0", "c0")
	downgrades(t, "main~: b0 d0; b0~: c0; c0: d1", "", "c0>a.x/c@v0.9.0", "main b0 c0 d0", "c0")
}

func TestP15_4_Errors(t *testing.T) {
	// Build's.
	downgradesNot(t, "main: !25", "", "", 25)
	downgradesNot(t, "main: b0; b0: !25", "b-", "", 25)
	downgradesNot(t, "main: b1; b1: !25; b0:", "b0", "", 25)
	downgradesNot(t, "main: b1; b1: c0; c0: !25; b0: !7", "b0", "", 25)
	// That of a module at its cap.
	downgradesNot(t, "main: b1; b0: !25", "b0", "b0>a.x/b@v0.9.0", 25)
	downgradesNot(t, "main: b1; b0: d0; d0: !25", "b0", "", 25)
	// That of a version ahead; one that fits sooner does not come to it.
	chain := "main: b3 c3; b3: c3; b2: c2; b1: !25; b0: !7"
	downgradesNot(t, chain, "c0", "b3>b2 b2>b1 b1>b0", 25)
	downgradesNot(t, chain, "c0", "b3>b0", 7)
	downgrades(t, chain, "c2", "b3>b2 b2>b1 b1>b0", "main b2 c2", "b3")
	// Of several, that of the first path.
	downgradesNot(t, "main: c1 b1; b0: !25; c0: !7", "c0 b0", "", 25)
	downgradesNot(t, "main: c1 b1; b0: d0; d0: e0; e0: !25; c0: !7", "c0 b0", "", 25)
	downgradesNot(t, "main: c1 b1; b1: z1; b0: !25; c0: !7", "c0 z-", "b1>b0", 25)
	// An error of what is above its cap is one all the same.
	downgradesNot(t, "main: b0 c1; b0: c0; d0: !25; c0: e1 d0", "e0 c0", "", 25)
	// Where main is pruned, that of a module which was not asked.
	downgradesNot(t, "main~: b0; b0~: c0; c0: !25", "", "", 25)
	downgradesNot(t, "main~: b0; b0~: c0; c0: d0; d0: !25", "b-", "", 25)
	downgrades(t, "main~: b0; b0~: c0; c0: !25", "c-", "", "main", "b0")
	// Too many alone, and too many together.
	downgradesNot(t, "main: b1; b0: "+several("f", 0, most), "b0", "", api.ErrMany)
	downgradesNot(t, "main: b1 c1; b0: "+several("f", 0, 600)+"; c0: "+several("g", 0, 600), "b0 c0", "", api.ErrMany)
	downgrades(t, "main: b1 c1; b0: "+several("f", 0, 600)+"; c0: "+several("g", 0, 398), "b0 c0", "", "main b0 c0 f599 g397", "")
}

// A req, or a prev, that can't be asked, or panics, is an error where it is asked.
func TestP15_4_PanicsAndNil(t *testing.T) {
	for _, workers := range crews() {
		for _, c := range calls() {
			l, e := c.do(nil, workers)
			isError(t, c.name+", no req", l, e, api.ErrRange)
			for _, at := range []string{"main", "b0", "d2"} {
				l, e = c.do(func(m api.Mod) ([]api.Mod, bool, api.Errno) {
					if m == word(at) {
						panic(at)
					}
					return parse(plain).req(m)
				}, workers)
				isError(t, c.name+", a req that panics at "+at, l, e, api.ErrRange)
			}
		}
		l, e := mvs.Downgrade(main(), parse(plain).req, mods("d1"), nil, workers)
		isError(t, "Downgrade, no prev", l, e, api.ErrRange)
		l, e = mvs.Downgrade(main(), parse(plain).req, mods("d1"), func(api.Mod) (string, bool) { panic("prev") }, workers)
		isError(t, "Downgrade, a prev that panics", l, e, api.ErrRange)
		l, e = mvs.Downgrade(main(), parse(plain).req, mods("b-"), nil, workers)
		isList(t, "Downgrade, no prev, which is not asked", l, e, "main c0 d2")
	}
	l, pruned, e := mvs.With(main(), nil, mods("b0"))(main())
	isError(t, "With of no req", l, e, api.ErrRange)
	is(t, "With of no req, pruned", pruned, false)
}
