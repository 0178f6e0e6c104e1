package plan_test

import (
	"fmt"
	"strings"
	"testing"

	"mews/api"
	"mews/plan"
)

func TestP16_6_TidyAdds(t *testing.T) {
	u := still(t, "b0: / .>d; b1: d0 / .>d q; c0: / . q>fmt; d0: / .; d1: / .>e,f; e0: / .; f0: / .; f@v1.1.0-rc: / .; g@v0.1.0-a: / .; g@v0.1.0-b: / .; h0: d0 / .>d")
	// None, one, several.
	makes(t, project("/ .>fmt,main"), "tidy", u, "", "")
	makes(t, project("/ .>e"), "tidy", u, "e0", "e0")
	makes(t, project("/ .>c/q sub>c,e"), "tidy", u, "c0 e0", "c0 e0")
	makes(t, project("/ .>b"), "tidy", u, "b1", "b1 d0")
	makes(t, project("/ .>b,d"), "tidy", u, "b1 d0", "b1 d0")
	// The latest, and what that imports, too.
	makes(t, project("/ .>d"), "tidy", u, "d1 e0! f0!", "d1 e0 f0")
	makes(t, project("-d1 / .>d"), "tidy", u, "d0", "d0")
	makes(t, project("-d1 -d0 / .>g"), "tidy", u, "g@v0.1.0-b", "g@v0.1.0-b")
	makes(t, project("-g@v0.1.0-b / .>g"), "tidy", u, "g@v0.1.0-a", "g@v0.1.0-a")
	makes(t, project("-f0 / .>f"), "tidy", u, "f@v1.1.0-rc", "f@v1.1.0-rc")
	makesNot(t, project("-d1 -d0 / .>d"), "tidy", u, api.ErrMissing)
	// One that is there stays at its version.
	makes(t, project("b0 d0 / .>b"), "tidy", u, "b0 d0!", "b0 d0")
	makes(t, project("b1 / .>b,d"), "tidy", u, "b1 d0", "b1 d0")
	makes(t, project("b0 / .>b"), "tidy", u, "b0 d1! e0! f0!", "b0 d1 e0 f0")
	makes(t, project("b0 h0 / .>b"), "tidy", u, "b0 d0!", "b0 d0")
	// In the place of one that is excluded.
	makes(t, project("d0 -d0 / .>d"), "tidy", u, "d1 e0! f0!", "d1 e0 f0")
	makes(t, project("d1 -d1 / .>d"), "tidy", u, "d0", "d0")
	// What another one of several workers' rounds adds is there for the next one.
	makes(t, project("/ x>b y>d z>b/q"), "tidy", u, "b1 d0", "b1 d0")
	makes(t, project("/ x>d y>b z>b/q"), "tidy", u, "b1 d1 e0! f0!", "b1 d1 e0 f0")
}

func TestP16_6_TidyTakesAway(t *testing.T) {
	u := still(t, "b0: c0 / .>c; b1: c1 / .; c0: d0 / .>d; c1: / .; d0: / .; d1: / .; e0: d1 / .")
	makes(t, project("b0 e0 d1! / .>fmt"), "tidy", u, "", "")
	makes(t, project("b0 e0 / .>b"), "tidy", u, "b0 d1!", "b0 c0 d1")
	makes(t, project("b0 / .>b"), "tidy", u, "b0", "b0 c0 d0")
	makes(t, project("b0 / .>c"), "tidy", u, "c0", "c0 d0")
	makes(t, project("b0! / .>d"), "tidy", u, "d0", "d0")
	// Indirect is what no package of main imports; direct what one does.
	makes(t, project("b0! / .>b"), "tidy", u, "b0", "b0 c0 d0")
	makes(t, project("b0 c0 d1 / .>b"), "tidy", u, "b0 d1!", "b0 c0 d1")
	makes(t, project("b0 c0! d1! / .>b,d"), "tidy", u, "b0 d1", "b0 c0 d1")
	makes(t, project("b0 c0! d1! / .>c q/r>d"), "tidy", u, "c0 d1", "c0 d1")
	makes(t, project("b0 d0! / .>c q/r>d"), "tidy", u, "c0 d0", "c0 d0")
	// Lines of what went away go.
	p := steps(t, project("b0 e0 / .>b,e"), "vendor", u)
	p.Sources = sources(".>e")
	next := makes(t, p, "tidy", u, "e0", "d1 e0")
	is(t, "the lock, by lines", strings.Count(next.Lock, "\n"), 4)
}

func TestP16_6_TidyFronts(t *testing.T) {
	u := still(t, "b/q/r0: / . x; b/q0: / r s; b0: / q/r q/s q/t .; a.x@v1.0.0: / b/q/u c c/d; a.x@v1.1.0: / c; c0: d0 / .; e/f0: / . ; e0: / f f/g")
	// From the longest on.
	makes(t, project("/ .>b/q/r"), "tidy", u, "b/q/r0", "b/q/r0")
	makes(t, project("/ .>b/q/r/x"), "tidy", u, "b/q/r0", "b/q/r0")
	makes(t, project("/ .>b/q/s"), "tidy", u, "b/q0", "b/q0")
	makes(t, project("/ .>b/q/t"), "tidy", u, "b0", "b0")
	makes(t, project("/ .>b"), "tidy", u, "b0", "b0")
	makes(t, project("/ .>e/f"), "tidy", u, "e/f0", "e/f0")
	makes(t, project("/ .>e/f/g"), "tidy", u, "e0", "e0")
	// A front whose latest has not the package; only the latest counts.
	makesNot(t, project("/ .>b/q/u"), "tidy", u, api.ErrMissing)
	makes(t, project("-a.x@v1.1.0 / .>b/q/u"), "tidy", u, "a.x@v1.0.0", "a.x@v1.0.0")
	makesNot(t, project("/ .>c/d"), "tidy", u, api.ErrMissing)
	makesNot(t, project("/ .>b/none"), "tidy", u, api.ErrMissing)
	makesNot(t, project("/ .>z.z,z.z/z"), "tidy", u, api.ErrMissing)
	// A provider that is there is the provider, whatever a longer front has.
	makesNot(t, project("b0 / .>b/q/r/x"), "tidy", u, api.ErrMissing)
	makes(t, project("b0 / .>b/q/r"), "tidy", u, "b0", "b0")
	makesNot(t, project("a.x@v1.1.0 / .>b"), "tidy", u, api.ErrMissing)
	// The first one met: what it brings may do for the next one, or stand in its way.
	makes(t, project("/ .>b/q/r,b/q/s"), "tidy", u, "b/q0 b/q/r0", "b/q0 b/q/r0")
	makes(t, project("/ a>b/q/t z>b/q/r"), "tidy", u, "b0", "b0")
	makes(t, project("/ a>b/q/r z>b/q/t"), "tidy", u, "b0 b/q/r0", "b0 b/q/r0")
	makesNot(t, project("/ a>b/q/t z>b/q/r/x"), "tidy", u, api.ErrMissing)
	// What is missing of a module that is there is another error: nothing is added.
	makesNot(t, project("/ a>e/f z>e/f/g"), "tidy", u, api.ErrMissing)
	// Where one is replaced, what stands in its place has the package or not.
	makes(t, project("b/q/r=e/f0 / .>b/q/r"), "tidy", u, "b/q/r0", "e/f0")
	makes(t, project("b/q/r=e0 / .>b/q/r"), "tidy", u, "b/q0", "b/q0")
	makes(t, project("b/q0=e/f0 b/q/r0=e0 / .>b/q/r"), "tidy", u, "b0", "b0")
	makes(t, project("b/q/r=e0 / .>b/q/r/f/g"), "tidy", u, "b/q/r0", "e0")
	// Of a module that isn't sold there is no latest, though it be replaced.
	makesNot(t, project("z.z=b0 / .>z.z"), "tidy", u, api.ErrMissing)
}

func TestP16_6_TidyFrontsPassedOver(t *testing.T) {
	u := still(t, "b/q0: / .; b/q1: / .; b0: / q; a.x@v1.0.0: / b/q")
	p := project("/ .>b/q")
	makes(t, p, "tidy", u, "b/q1", "b/q1")
	for _, text := range []string{"V b/q 25", "V b/q 2", "T b/q1 25", "V b/q 25; T b/q1 26"} {
		makes(t, p, "tidy", faults(u, text), "b0", "b0")
		makes(t, p, "tidy", faults(u, text+"; T b0 27"), "a.x@v1.0.0", "a.x@v1.0.0")
		makes(t, p, "tidy", faults(u, text+"; V b 27"), "a.x@v1.0.0", "a.x@v1.0.0")
		makesNot(t, p, "tidy", faults(u, text+"; V b 27; V a.x 28"), api.ErrMissing)
		makesNot(t, p, "tidy", faults(u, text+"; V b 27; T a.x@v1.0.0 28"), api.ErrMissing)
	}
	// Its manifest is asked for only where it is added, and its error is told.
	makesNot(t, p, "tidy", faults(u, "M b/q1 25"), 25)
	makes(t, p, "tidy", faults(u, "M b/q0 25; T b/q0 26; V b 27; T b0 28; M b0 29"), "b/q1", "b/q1")
	// Sources that can't be read, anywhere in it.
	for _, text := range []string{"bad", "package p\nimport \"/\"\n", "//go:build a\n//go:build b\npackage p\n", strings.Repeat("\n", api.MaxText+1)} {
		l := sold("b/q0: / .; b0: / q")
		l[0].Files = append(l[0].Files, file("far/y.go", text))
		makes(t, p, "tidy", stillOf(t, l), "b0", "b0")
		// Of one that is there it is told.
		want, e := plan.Needed(project("b/q0 / .>b/q"), stillOf(t, l), nil, 1)
		is(t, "beside an error", len(want), 0)
		makesNot(t, project("b/q0 / .>b/q"), "tidy", stillOf(t, l), e)
		is(t, "an error", e != api.OK, true)
	}
	// Fronts that are no paths of modules: an import may have them all the same.
	v := still(t, "a.x@v1.0.0: / v1 b/v1/c b+/c; b0: / v1/c; b/v1/c0: / .")
	makes(t, project("/ .>a.x/v1"), "tidy", v, "a.x@v1.0.0", "a.x@v1.0.0")
	makes(t, project("/ .>b/v1/c"), "tidy", v, "b/v1/c@v1.0.0", "b/v1/c@v1.0.0")
	makes(t, project("/ .>a.x/b+/c"), "tidy", v, "a.x@v1.0.0", "a.x@v1.0.0")
	asked := &watched{Universe: v}
	makesNot(t, project("/ .>a.x/b+/v1"), "tidy", asked, api.ErrMissing)
	is(t, "asked", asked.all(), "T a.x@v1.0.0; V a.x")
	asked = &watched{Universe: v}
	makesNot(t, project("/ .>A.x/b"), "tidy", asked, api.ErrMissing)
	is(t, "asked", asked.all(), "")
}

func TestP16_6_TidyMain(t *testing.T) {
	u := still(t, "p@v1.0.0: / q; m.n@v1.0.0: / p/q p; m.n/p@v1.0.0: / . q; m.n/p/q@v1.0.0: / .; m.n/pq@v1.0.0: / .; b0: / .>main/q")
	// What is main's is looked for there alone.
	w := &watched{Universe: u}
	makesNot(t, project("/ .>main/q"), "tidy", w, api.ErrMissing)
	is(t, "asked", w.all(), "")
	makes(t, project("/ .>main/q q"), "tidy", u, "", "")
	makes(t, project("m.n/p/q@v1.0.0 / .>main/q"), "tidy", u, "m.n/p/q@v1.0.0", "m.n/p/q@v1.0.0")
	makes(t, project("/ .>m.n/pq"), "tidy", u, "m.n/pq@v1.0.0", "m.n/pq@v1.0.0")
	makesNot(t, project("/ .>b"), "tidy", u, api.ErrMissing)
	makes(t, project("/ .>b q"), "tidy", u, "b0", "b0")
	// Of main no module is direct.
	makes(t, project("b0 m.n/p/q@v1.0.0 / .>b,main/r r"), "tidy", u, "b0 m.n/p/q@v1.0.0!", "b0 m.n/p/q@v1.0.0")
}

func TestP16_6_TidyErrors(t *testing.T) {
	u := still(t, "b0: c0 / .>c; c0: / .>z.z/z; d0: / .; e0: f9; g0: / .")
	makesNot(t, project("/ .>b"), "tidy", u, api.ErrMissing)
	makesNot(t, project("b0 / .>b"), "tidy", u, api.ErrMissing)
	makesNot(t, project("z9 / .>b"), "tidy", u, api.ErrNone)
	makesNot(t, project("d0 / .>d/q"), "tidy", u, api.ErrMissing)
	makesNot(t, project("d0 / .>d"), "tidy", faults(u, "T d0 25"), 25)
	makesNot(t, project("d0 / .>d"), "tidy", faults(u, "M d0 25"), 25)
	bad := project("d0")
	bad.Sources = []api.File{file("x.go", "bad")}
	makesNot(t, bad, "tidy", u, api.ErrSyntax)
	// Another error of the first round comes ahead, if it comes first there.
	makesNot(t, project("d0 / .>d,g"), "tidy", faults(u, "T d0 25"), 25)
	makesNot(t, project("d0 / .>g z>d"), "tidy", faults(u, "T d0 25; M g0 26"), 26)
	makesNot(t, project("d0 / .>g z>d"), "tidy", faults(u, "T d0 25; V g 26"), api.ErrMissing)
	// Of what is not needed nothing is told.
	makes(t, project("d0 c0 / .>d"), "tidy", faults(u, "T c0 25; V d 26; V c 27"), "d0", "d0")
	// What is added brings its own requirements.
	v := still(t, "e0: f9 / .; g0: / .")
	makesNot(t, project("/ .>e"), "tidy", v, api.ErrNone)
}

// chain is modules of which each one's package imports the next one's.
func chain(count int) []plan.Sold {
	var text strings.Builder
	for i := range count {
		fmt.Fprintf(&text, "m%s0: / .", letters(i))
		if i+1 < count {
			text.WriteString(">m" + letters(i+1))
		}
		text.WriteString(";")
	}
	return sold(text.String())
}

// So many may be added, and no more.
func TestP16_6_TidyMany(t *testing.T) {
	p := project("/ .>maa")
	next, e := plan.Step(p, command("tidy"), stillOf(t, chain(api.MaxMods)), nil, 5)
	is(t, "as many as may be, error", e, api.OK)
	is(t, "as many as may be", strings.Count(next.Manifest, " v1.0.0"), api.MaxMods)
	is(t, "as many as may be, indirect", strings.Count(next.Manifest, "// indirect"), api.MaxMods-1)
	fails(t, p, command("tidy"), stillOf(t, chain(api.MaxMods+1)), 5, api.ErrMany)
	fails(t, p, command("tidy"), stillOf(t, chain(api.MaxMods+2)), 5, api.ErrMany)
	// Of one too many that nobody has it is told that it is missing.
	l := chain(api.MaxMods)
	l[api.MaxMods-1].Files = sources(".>z.z/z")
	fails(t, p, command("tidy"), stillOf(t, l), 5, api.ErrMissing)
	// Those that are there don't count, as long as all of them fit a manifest.
	some := chain(api.MaxMods)
	fails(t, project("maa0 / .>maa"), command("tidy"), stillOf(t, chain(api.MaxMods+1)), 5, api.ErrMany)
	next, e = plan.Step(project("maa0 mab0 mac0 / .>maa"), command("tidy"), stillOf(t, some), nil, 5)
	is(t, "some of them there, error", e, api.OK)
	is(t, "some of them there", strings.Count(next.Manifest, " v1.0.0"), api.MaxMods)
	// Those that go don't count, either.
	var gone []string
	for i := range api.MaxMods {
		gone = append(gone, "g"+letters(i)+"0")
		some = append(some, sold("g"+letters(i)+"0:")...)
	}
	next, e = plan.Step(project(strings.Join(gone, " ")+" / .>maa"), command("tidy"), stillOf(t, some), nil, 5)
	is(t, "others there, error", e, api.OK)
	is(t, "others there", strings.Count(next.Manifest, " v1.0.0"), api.MaxMods)
}
