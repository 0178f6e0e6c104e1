package plan_test

import (
	"fmt"
	"strings"
	"testing"

	"mews/api"
	"mews/modfile"
	"mews/plan"
)

// allCommands are commands of each kind.
func allCommands() []string {
	return []string{"get b", "get b v1.0.0", "get b none", "tidy", "upgrade", "downgrade b v1.0.0", "vendor"}
}

// The workers, the kind, the manifest and the lock, in this order.
func TestP16_6_FirstErrors(t *testing.T) {
	u := still(t, "b0: / .")
	good := project("b0 / .>b")
	badLock := good
	badLock.Lock = "bad"
	badManifest := plan.Project{Manifest: "bad"}
	bothBad := plan.Project{Manifest: "bad", Lock: "a.b v1.0.0 h1:x\n"}
	kinds := []int{-1 << 63, -1, 0, plan.CVendor + 1, 6, 1<<63 - 1}
	for _, p := range []plan.Project{good, badLock, badManifest, bothBad, {}} {
		for _, workers := range badCrews() {
			for _, text := range allCommands() {
				fails(t, p, command(text), u, workers, api.ErrRange)
			}
			for _, kind := range kinds {
				fails(t, p, plan.Command{Kind: kind, Path: "a.x/b"}, u, workers, api.ErrRange)
			}
		}
		for _, workers := range crews() {
			for _, kind := range kinds {
				fails(t, p, plan.Command{Kind: kind, Path: "a.x/b"}, u, workers, api.ErrKind)
			}
		}
	}
	for _, text := range append(allCommands(), "get ! !", "downgrade ! !", "get main") {
		makesNot(t, badManifest, text, nil, api.ErrSyntax)
		makesNot(t, bothBad, text, nil, api.ErrSyntax)
		makesNot(t, plan.Project{Lock: "bad"}, text, nil, api.ErrNone)
		makesNot(t, badLock, text, nil, api.ErrSyntax)
		makesNot(t, plan.Project{Manifest: good.Manifest, Lock: bothBad.Lock}, text, nil, api.ErrSum)
		makesNot(t, plan.Project{Manifest: good.Manifest, Lock: strings.Repeat("\n", api.MaxText+1)}, text, nil, api.ErrLong)
	}
	for _, text := range allCommands() {
		for _, workers := range []int{1, api.MaxWorkers} {
			_, e := plan.Step(good, command(text), u, nil, workers)
			is(t, text+", workers that may be", e, api.OK)
		}
	}
}

func TestP16_6_GetErrors(t *testing.T) {
	u := still(t, "b0: / .; b1: / .; d0: / .")
	p := project("b0 -b2 / .>b")
	long := "a.x/" + strings.Repeat("b", api.MaxPath)
	for path, want := range map[string]api.Errno{"": api.ErrPath, "ab": api.ErrPath, "A.x/b": api.ErrPath, "a.x//b": api.ErrPath, "a.x/v1": api.ErrMajor, long: api.ErrLong, mainPath: api.ErrThere} {
		for _, version := range []string{"", "latest", "none", "v1.0.0", "v2.0.0", "v9", "x"} {
			for _, workers := range crews() {
				fails(t, p, plan.Command{Kind: plan.CGet, Path: path, Version: version}, nil, workers, want)
			}
		}
	}
	for text, want := range map[string]api.Errno{
		"get b v9": api.ErrVersion, "get b Latest": api.ErrVersion, "get b NONE": api.ErrVersion, "get b v1.0.00": api.ErrVersion, "get b v1.0": api.ErrVersion,
		"get b v2.0.0": api.ErrMajor, "get b/v2 v1.0.0": api.ErrMajor, "get b v1.2.0": api.ErrExcluded,
		// That it isn't sold is said by who is asked for it.
		"get b v1.9.0": api.ErrNone, "get e": api.ErrNone, "get e latest": api.ErrNone, "get e v1.0.0": api.ErrNone,
	} {
		makesNot(t, p, text, u, want)
	}
	// Those of the command come ahead of those of the build list.
	broken := project("z9 -b2")
	for text, want := range map[string]api.Errno{"get b v9": api.ErrVersion, "get b v2.0.0": api.ErrMajor, "get b v1.2.0": api.ErrExcluded, "get main": api.ErrThere, "get q": 27, "get b": api.ErrNone, "get b none": api.ErrNone, "get b v1.0.0": api.ErrNone} {
		makesNot(t, broken, text, faults(u, "V q 27"), want)
	}
	makesNot(t, p, "get b", faults(u, "V b 25"), 25)
	makesNot(t, p, "get d", faults(u, "V d 25; M b0 26"), 25)
	makesNot(t, p, "get d", faults(u, "M d0 25"), 25)
	makesNot(t, p, "get d", faults(u, "T b0 25; T d0 26"), 25)
	makesNot(t, p, "get d v1.0.0", faults(u, "M b0 26; T b0 27"), 26)
	makes(t, p, "get d v1.0.0", faults(u, "V b 25; V d 26; M b1 27; T b1 28"), "b0 d0", "b0 d0")
	makes(t, p, "get b", faults(u, "T b0 26; V d 27"), "b1", "b1")
	makesNot(t, p, "get b", faults(u, "M b0 25"), 25)
}

func TestP16_6_GetLatest(t *testing.T) {
	u := still(t, "b0: / .; b2:; b10:; b@v1.11.0-rc:; c@v1.0.0-b:; c@v1.0.0-a.1:; c@v1.0.0-a.02x:; n@v0.0.0-"+stamp+":; d@v0.9.0:; d@v1.0.0-z:")
	for _, version := range []string{"", " latest"} {
		makes(t, project("b0"), "get b"+version, u, "b10", "b10")
		makes(t, project("b0 -b10"), "get b"+version, u, "b2", "b2")
		makes(t, project("b0 -b10 -b2"), "get b"+version, u, "b0", "b0")
		makes(t, project(""), "get b"+version, u, "b10", "b10")
		// With a pre only where there is none without, that isn't excluded.
		makes(t, project("d@v0.9.0 -b10 -b2 -b0"), "get b"+version, u, "b@v1.11.0-rc d@v0.9.0", "b@v1.11.0-rc d@v0.9.0")
		makes(t, project(""), "get c"+version, u, "c@v1.0.0-b", "c@v1.0.0-b")
		makes(t, project("-c@v1.0.0-b"), "get c"+version, u, "c@v1.0.0-a.02x", "c@v1.0.0-a.02x")
		makes(t, project(""), "get d"+version, u, "d@v0.9.0", "d@v0.9.0")
		makes(t, project("-d@v0.9.0"), "get d"+version, u, "d@v1.0.0-z", "d@v1.0.0-z")
		makesNot(t, project("-d@v0.9.0 -d@v1.0.0-z"), "get d"+version, u, api.ErrNone)
		makesNot(t, project(""), "get n"+version, u, api.ErrNone)
		makesNot(t, project(""), "get e"+version, u, api.ErrNone)
		// The latest may be less than what there is.
		makes(t, project("b@v1.11.0-rc"), "get b"+version, u, "b10", "b10")
		makes(t, project("b10 -b10 n@v0.0.0-"+stamp), "get b"+version, u, "b2 n@v0.0.0-"+stamp, "b2 n@v0.0.0-"+stamp)
	}
	// A pseudo-version may be got by its name.
	makes(t, project(""), "get n v0.0.0-"+stamp, u, "n@v0.0.0-"+stamp, "n@v0.0.0-"+stamp)
	// What is no version is none, and the order in which they are told is nothing.
	odd := said{u, map[string][]string{"a.x/b": {"x", "v1.10.0", "v1.2", "v1.2.0", "", "v1.0.0", "w9.9.9"}, "a.x/e": {"x", "", "v1"}, "a.x/f": nil}}
	makes(t, project("b0"), "get b", odd, "b10", "b10")
	makesNot(t, project("b0"), "get e", odd, api.ErrNone)
	makesNot(t, project("b0"), "get f", odd, api.ErrNone)
	odd.versions["a.x/c"] = []string{"v1.0.0-b", "v1.0.0-a.1"}
	makes(t, project(""), "get c", odd, "c@v1.0.0-b", "c@v1.0.0-b")
}

// said is a universe that says other versions.
type said struct {
	plan.Universe
	versions map[string][]string
}

func (s said) Versions(path string) ([]string, api.Errno) { return s.versions[path], api.OK }

func TestP16_6_GetVersion(t *testing.T) {
	u := still(t, "b0: d0; b1: d1; b2: d2; c0: b1; c1: b2; d0:; d1:; d2:; d3: c0; e0:")
	// Greater than, equal to and less than the list's; a path that it has not.
	makes(t, project("b0"), "get b v1.2.0", u, "b2", "b2 d2")
	makes(t, project("b1"), "get b v1.1.0", u, "b1", "b1 d1")
	makes(t, project("b2"), "get b v1.1.0", u, "b1 d2!", "b1 d2")
	makes(t, project("b2"), "get e v1.0.0", u, "b2 e0", "b2 d2 e0")
	makes(t, project(""), "get b v1.1.0", u, "b1", "b1 d1")
	// Below another one's requirement: that one falls, or goes.
	makes(t, project("b0 c1"), "get b v1.1.0", u, "b1 c0 d2!", "b1 c0 d2")
	makes(t, project("b0 c1"), "get b v1.0.0", u, "b0 d2!", "b0 d2")
	makes(t, project("c1"), "get b v1.0.0", u, "b0 d2!", "b0 d2")
	makes(t, project("c1"), "get d v1.1.0", u, "c0 d1", "b1 c0 d1")
	// Above it: what it brings comes, too.
	makes(t, project("b0"), "get d v1.3.0", u, "b1 d3", "b1 c0 d3")
	makes(t, project("b2 c0"), "get d v1.0.0", u, "b0 d0", "b0 d0")
	// Direct: what was indirect, or only reached.
	makes(t, project("b0 d1!"), "get d v1.1.0", u, "b0 d1", "b0 d1")
	makes(t, project("b0"), "get d v1.0.0", u, "b0 d0", "b0 d0")
	makes(t, project("b0! d1!"), "get d v1.1.0", u, "b0! d1", "b0 d1")
	makes(t, project("c0 b0"), "get e v1.0.0", u, "b1 c0 e0", "b1 c0 d1 e0")
	makes(t, project("c0 b0!"), "get e v1.0.0", u, "c0 e0", "b1 c0 d1 e0")
	makes(t, project("c0 d3!"), "get b v1.2.0", u, "b2 c0 d3!", "b2 c0 d3")
	// The same path may be said twice to be direct.
	makes(t, project("b0"), "get b v1.0.0", u, "b0", "b0 d0")
	// What is excluded is passed over; what stands in a place says what it does.
	makes(t, project("b0 -d1"), "get b v1.1.0", u, "b1 d0!", "b1 d0")
	makes(t, project("b0 b1=e0"), "get b v1.1.0", u, "b1 d0!", "d0 e0")
	makes(t, project("b0 b=e0"), "get b v1.9.0", u, "b9", "e0")
	makes(t, project("e0 -b0 b0"), "get c v1.0.0", u, "b1 c0 e0", "b1 c0 d1 e0")
	// A manifest's other statements stay.
	p := plan.Project{Manifest: "go 1.12\nretract [v1.0.0, v1.1.0]\nretract v0.1.0\nmodule m.n/p\nreplace a.x/z => a.x/y v1.0.0\nexclude a.x/b v1.7.0\n// gone\n"}
	next := makes(t, p, "get e v1.0.0", u, "e0", "e0")
	is(t, "the manifest", next.Manifest, "module m.n/p\n\ngo 1.12\n\nrequire (\n\ta.x/e v1.0.0\n)\n\nexclude (\n\ta.x/b v1.7.0\n)\n\nreplace (\n\ta.x/z => a.x/y v1.0.0\n)\n\nretract (\n\tv0.1.0\n\t[v1.0.0, v1.1.0]\n)\n")
}

func TestP16_6_GetNone(t *testing.T) {
	u := still(t, "b0: d0; b1: d1; c0:; c1: d0; d0:; d1:; e0: b1")
	makes(t, project("b0"), "get b none", u, "d0!", "d0")
	makes(t, project("b0 c0"), "get d none", u, "c0", "c0")
	makes(t, project("b0 c1 d1"), "get d none", u, "c0", "c0")
	makes(t, project("b0 d1"), "get b none", u, "d1", "d1")
	makes(t, project("b0"), "get c none", u, "b0", "b0 d0")
	makes(t, project("b0"), "get q none", u, "b0", "b0 d0")
	makes(t, project(""), "get q none", u, "", "")
	makes(t, project("e0 b0!"), "get b none", u, "d1!", "d1")
	makes(t, project("e0 c1!"), "get d none", u, "c0!", "c0")
	// No version ahead is asked for, of what is to be none at all.
	makes(t, project("b1"), "get b none", faults(u, "V b 25; T b0 26"), "d1!", "d1")
	makes(t, project("b1 c1"), "get d none", faults(u, "V c 25"), "", "")
	makes(t, project("c1 -c0"), "get d none", u, "", "")
	makesNot(t, project("z0"), "get b none", u, api.ErrNone)
	makesNot(t, project("b0 c1"), "get b none", faults(u, "T c1 25"), 25)
	// Where main is pruned it may come back, by what main requires then; it is
	// direct no more.
	w := still(t, "b0~: d0; c0~: b0; d0:")
	makes(t, project("b0 ~"), "get d none", w, "", "")
	makes(t, project("c0 ~"), "get d none", w, "b0! c0", "b0 c0 d0")
}

func TestP16_6_Upgrade(t *testing.T) {
	u := still(t, "b0:; b2: d1; b@v1.3.0-rc:; c0: d0; d0:; d1:; d2:; f@v1.0.0-a:; f@v1.0.0-b:; n@v0.0.0-"+stamp+":; g0: b@v1.3.0-rc")
	makes(t, project("b0"), "upgrade", u, "b2", "b2 d1")
	makes(t, project("b0 c0"), "upgrade", u, "b2 c0", "b2 c0 d1")
	makes(t, project("b0 d0"), "upgrade", u, "b2 d2", "b2 d2")
	makes(t, project(""), "upgrade", u, "", "")
	// Only what is direct, and stays so.
	makes(t, project("b0! c0"), "upgrade", u, "b0! c0", "b0 c0 d0")
	makes(t, project("b0 d0!"), "upgrade", u, "b2", "b2 d1")
	makes(t, project("b0 d2!"), "upgrade", u, "b2 d2!", "b2 d2")
	// Nothing newer; the newest excluded; all excluded.
	makes(t, project("b2 c0 d2"), "upgrade", u, "b2 c0 d2", "b2 c0 d2")
	makes(t, project("b0 -b2"), "upgrade", u, "b0", "b0")
	makes(t, project("c0 b0 d0 -b2 -d2"), "upgrade", u, "b0 c0 d1", "b0 c0 d1")
	makes(t, project("b2 -b2"), "upgrade", u, "b0", "b0")
	makes(t, project("b0 -b0 -b2"), "upgrade", u, "b@v1.3.0-rc", "b@v1.3.0-rc")
	makes(t, project("c0 b0 -b0 -b2 -b@v1.3.0-rc"), "upgrade", u, "c0", "c0 d0")
	// None falls, where the list's is greater than the latest.
	makes(t, project("b@v1.3.0-rc d0"), "upgrade", u, "b@v1.3.0-rc d2", "b@v1.3.0-rc d2")
	makes(t, project("b0 g0"), "upgrade", u, "b@v1.3.0-rc g0", "b@v1.3.0-rc g0")
	makes(t, project("f@v1.0.0-a"), "upgrade", u, "f@v1.0.0-b", "f@v1.0.0-b")
	// A path of which there is no version stays; also one of which u says that.
	makes(t, project("b0 n@v0.0.0-"+stamp), "upgrade", u, "b2 n@v0.0.0-"+stamp, "b2 d1 n@v0.0.0-"+stamp)
	makes(t, project("b0 d0"), "upgrade", faults(u, "V b 2"), "b0 d2", "b0 d2")
	makes(t, project("b0 z0 z=c0"), "upgrade", u, "b2 z0", "b2 c0 d1")
	// Another error is the answer: of the least path; indirect ones are not asked.
	makesNot(t, project("b0 c0 d0"), "upgrade", faults(u, "V b 25"), 25)
	makesNot(t, project("b0 c0 d0"), "upgrade", faults(u, "V c 25; V d 26"), 25)
	makesNot(t, project("b0 c0 d0"), "upgrade", faults(u, "V b 2; V c 25; V d 26"), 25)
	makes(t, project("b0 d0!"), "upgrade", faults(u, "V d 25; V c 26"), "b2", "b2 d1")
	// It comes ahead of the build list's.
	makesNot(t, project("b0 c9"), "upgrade", faults(u, "V b 25"), 25)
	makesNot(t, project("b0 c9"), "upgrade", u, api.ErrNone)
	makesNot(t, project("b0 c0"), "upgrade", faults(u, "M c0 25"), 25)
	makesNot(t, project("b0"), "upgrade", faults(u, "M b2 25"), 25)
	makesNot(t, project("b0"), "upgrade", faults(u, "T b2 25; T b0 26"), 25)
	// All at once: what one brings may be enough for another one.
	v := still(t, "b0:; b1: c2; c0:; c1:; c2:; d0: b2; b2:")
	makes(t, project("b0 c0"), "upgrade", v, "b2 c2", "b2 c2")
	makes(t, project("b0 c0 -b2"), "upgrade", v, "b1 c2", "b1 c2")
}

func TestP16_6_Downgrade(t *testing.T) {
	u := still(t, "b0: d0; b1: d1; b2: d2; c0:; c1: b1; c2: b2; d0:; d1:; d2:; e0: c2")
	makes(t, project("b2"), "downgrade b v1.1.0", u, "b1 d2!", "b1 d2")
	makes(t, project("b2"), "downgrade d v1.1.0", u, "b1", "b1 d1")
	makes(t, project("b2"), "downgrade d v1.0.0", u, "b0", "b0 d0")
	makes(t, project("c2"), "downgrade d v1.0.0", u, "b0! c0", "b0 c0 d0")
	makes(t, project("c2 b2"), "downgrade b v1.1.0", u, "b1 c1 d2!", "b1 c1 d2")
	makes(t, project("e0 b0"), "downgrade b v1.1.0", u, "b1 c1! d2!", "b1 c1 d2")
	makes(t, project("e0!"), "downgrade c v1.1.0", u, "b2! c1!", "b2 c1 d2")
	// To the same.
	makes(t, project("b1"), "downgrade b v1.1.0", u, "b1", "b1 d1")
	makes(t, project("b1 d1!"), "downgrade d v1.1.0", u, "b1", "b1 d1")
	// To a greater one, of what is not there.
	makesNot(t, project("b1"), "downgrade b v1.2.0", u, api.ErrVersion)
	makesNot(t, project("b1"), "downgrade b v1.1.1-rc", u, api.ErrVersion)
	makesNot(t, project("b1"), "downgrade d v1.2.0", u, api.ErrVersion)
	makesNot(t, project("b1"), "downgrade c v1.0.0", u, api.ErrNone)
	makesNot(t, project("b1 -b1"), "downgrade b v1.0.0", u, api.ErrNone)
	makesNot(t, project("b1"), "downgrade main v1.0.0", u, api.ErrNone)
	makesNot(t, project("b1"), "downgrade main v0.0.0-0", u, api.ErrNone)
	// The module's own errors ahead of the build list's.
	for text, want := range map[string]api.Errno{"downgrade ! v1.0.0": api.ErrPath, "downgrade": api.ErrPath, "downgrade b": api.ErrVersion, "downgrade b none": api.ErrVersion, "downgrade b latest": api.ErrVersion, "downgrade b v2.0.0": api.ErrMajor, "downgrade main v2.0.0": api.ErrMajor} {
		makesNot(t, project("b2"), text, u, want)
		makesNot(t, project("z9"), text, nil, want)
	}
	makesNot(t, project("z9"), "downgrade c v1.0.0", u, api.ErrNone)
	makesNot(t, project("b2"), "downgrade b v1.1.0", faults(u, "M b2 25"), 25)
	makesNot(t, project("b2"), "downgrade b v1.1.0", faults(u, "M b1 25"), 25)
	makesNot(t, project("b2"), "downgrade b v1.1.0", faults(u, "T b1 25"), 25)
	makes(t, project("b2"), "downgrade b v1.1.0", faults(u, "V b 25; T b2 26; M b0 27; M d0 28"), "b1 d2!", "b1 d2")
	// What is not sold is told, where it is wanted itself.
	makesNot(t, project("b2"), "downgrade b v1.0.5", u, api.ErrNone)
}

// The version ahead is the greatest that is less and isn't excluded.
func TestP16_6_Previous(t *testing.T) {
	u := still(t, "b0:; b1: d1; b2: d1; b3: d3; b@v1.2.5-rc: d3; b@v1.1.5-rc: d0; d0:; d1:; d3:")
	makes(t, project("b3"), "downgrade d v1.1.0", u, "b2", "b2 d1")
	makes(t, project("b3 -b2"), "downgrade d v1.1.0", u, "b@v1.1.5-rc d1!", "b@v1.1.5-rc d1")
	makes(t, project("b3 -b2 -b@v1.1.5-rc"), "downgrade d v1.1.0", u, "b1", "b1 d1")
	makes(t, project("b3 -b2 -b@v1.1.5-rc"), "downgrade d v1.0.0", u, "b0 d0!", "b0 d0")
	makes(t, project("b3 -b2 -b@v1.1.5-rc -b0"), "downgrade d v1.0.0", u, "d0!", "d0")
	makes(t, project("b3 -b2 -b@v1.1.5-rc -b1 -b0"), "downgrade d v1.1.0", u, "d1!", "d1")
	makes(t, project("b3 -d1"), "downgrade d v1.0.0", u, "b2 d0!", "b2 d0")
	// An error of u: none.
	makes(t, project("b3"), "downgrade d v1.1.0", faults(u, "V b 25"), "d1!", "d1")
	makes(t, project("b3"), "downgrade d v1.1.0", faults(u, "V b 2; V d 25"), "d1!", "d1")
	// In whatever order they are told; what is no version is none.
	odd := said{u, map[string][]string{"a.x/b": {"v1.1.0", "v1.3.0", "x", "v1.2.0", "", "v1.0.0", "v1.9.0", "v1.2"}}}
	makes(t, project("b3"), "downgrade d v1.1.0", odd, "b2", "b2 d1")
	makes(t, project("b3 -b2"), "downgrade d v1.0.0", odd, "b0 d0!", "b0 d0")
	odd.versions["a.x/b"] = []string{"x", "", "v1", "v1.3.0", "v1.4.0"}
	makes(t, project("b3"), "downgrade d v1.1.0", odd, "d1!", "d1")
}

// Behind each of the commands: the fewest requirements, the form, the lock.
func TestP16_6_Requires(t *testing.T) {
	u := still(t, "b0: c0; c0: d0; d0: e0; e0:; e1:; f0:; g0~: f0")
	makes(t, project("b0 c0! d0! e0!"), "get f v1.0.0", u, "b0 f0", "b0 c0 d0 e0 f0")
	makes(t, project("b0 c0! d0! e1!"), "get f v1.0.0", u, "b0 e1! f0", "b0 c0 d0 e1 f0")
	makes(t, project("b0 c0 d0! e0!"), "get f v1.0.0", u, "b0 c0 f0", "b0 c0 d0 e0 f0")
	makes(t, project("d0! c0! e0!"), "get f v1.0.0", u, "c0! f0", "c0 d0 e0 f0")
	makes(t, project("b0! e0"), "upgrade", u, "b0! e1", "b0 c0 d0 e1")
	// Pruned main keeps what nobody else says.
	makes(t, project("g0 ~"), "upgrade", u, "g0", "f0 g0")
	next := makes(t, project("b0"), "upgrade", u, "b0", "b0 c0 d0 e0")
	is(t, "the lock, by lines", strings.Count(next.Lock, "\n"), 8)
	// Of the new manifest the old requirement is gone.
	makes(t, project("b0 c0"), "get b none", u, "c0", "c0 d0 e0")
}

// Errors behind the choice: of the form, of the new list, of the new lock.
func TestP16_6_LaterErrors(t *testing.T) {
	// So many requirements as a manifest may have, and one more: each of main's
	// stands there, none goes.
	text := "b0: / .;"
	for i := range api.MaxMods {
		text += fmt.Sprintf("m%s0:;", letters(i))
	}
	u := still(t, text)
	all := func(count int) string {
		var words []string
		for i := range count {
			words = append(words, "m"+letters(i)+"0")
		}
		return strings.Join(words, " ")
	}
	next := steps(t, project(all(api.MaxMods-1)), "get b v1.0.0", u)
	is(t, "as many as may be", strings.Count(next.Manifest, "v1.0.0"), api.MaxMods)
	makesNot(t, project(all(api.MaxMods)), "get b v1.0.0", u, api.ErrMany)
	makesNot(t, project(all(api.MaxMods)), "get b v1.0.0", faults(u, "T b0 25"), api.ErrMany)
	makesNot(t, project(all(api.MaxMods-1)), "get b v1.0.0", faults(u, "T b0 25"), 25)
	// What is told of another major can't stand in a manifest.
	odd := said{yes{}, map[string][]string{"a.x/b": {"v2.0.0"}}}
	makesNot(t, project(""), "get b", odd, api.ErrMajor)
}

// letters is a number without digits.
func letters(n int) string {
	return string([]byte{byte('a' + n/26%26), byte('a' + n%26)})
}

func TestP16_6_Vendor(t *testing.T) {
	u := still(t, "b0: d0 / .>d q; d0: / . e; f0: / .")
	p := project("b0 f0 // / .>b")
	p.Manifest = "// all of this stays\nmodule m.n/p\n\n\nrequire a.x/f v1.0.0\nrequire ( // b\n\t a.x/b v1.0.0 //  indirect \n)"
	p.Vendor = []api.File{file("old.go", "gone")}
	next := makes(t, p, "vendor", u, "b0! f0", "b0 d0 f0")
	is(t, "the manifest", next.Manifest, p.Manifest)
	is(t, "the tree", toldFiles(next.Vendor), toldFiles([]api.File{file("a.x/b/x.go", source("a.x/d")), file("a.x/d/x.go", source()), listing("# a.x/b v1.0.0\na.x/b\n# a.x/d v1.0.0\na.x/d\n")}))
	// Nothing needed.
	p.Sources = nil
	next = makes(t, p, "vendor", u, "b0! f0", "b0 d0 f0")
	is(t, "the tree of nothing", toldFiles(next.Vendor), toldFiles([]api.File{listing("")}))
	// Nothing is mended: what is missing is told.
	makesNot(t, project("b0 / .>e"), "vendor", u, api.ErrMissing)
	makesNot(t, project("d0 / .>b"), "vendor", u, api.ErrMissing)
	makesNot(t, project("z9 / .>z.z/z"), "vendor", u, api.ErrNone)
	// The lock's errors ahead of those of what is needed.
	makesNot(t, project("b0 / .>e"), "vendor", faults(u, "T b0 25"), 25)
	makesNot(t, project("b0 / .>e"), "vendor", faults(u, "M d0 25"), 25)
	bad := project("b0")
	bad.Sources = []api.File{file("x.go", "bad")}
	makesNot(t, bad, "vendor", u, api.ErrSyntax)
	makesNot(t, bad, "vendor", faults(u, "T d0 25"), 25)
	// Tags count.
	tagged := project("b0 f0 / .>b")
	tagged.Sources = append(tagged.Sources, file("x_linux.go", source("a.x/f")))
	for tags, want := range map[string]string{"": "a.x/b/x.go a.x/d/x.go modules.txt", "linux": "a.x/b/x.go a.x/d/x.go a.x/f/x.go modules.txt"} {
		next, e := plan.Step(tagged, command("vendor"), u, strings.Fields(tags), 3)
		is(t, "vendor with "+tags+", error", e, api.OK)
		is(t, "vendor with "+tags, names(next.Vendor), want)
	}
	// Path and version say nothing here, nor to a tidying or an upgrading.
	for _, kind := range []int{plan.CVendor, plan.CTidy, plan.CUpgrade} {
		want, e := plan.Step(tagged, plan.Command{Kind: kind}, u, nil, 1)
		is(t, "without a path", e, api.OK)
		next, e := plan.Step(tagged, plan.Command{Kind: kind, Path: "!", Version: "x"}, u, nil, 1)
		is(t, "with a path", e, api.OK)
		is(t, "with a path", toldProject(next), toldProject(want))
	}
}

// A vendored tree's list may be too long for a text.
func TestP16_6_VendorLong(t *testing.T) {
	var many []string
	for i := range 720 {
		many = append(many, fmt.Sprintf("q%s%s", strings.Repeat("r", 80), letters(i)+letters(i/26)))
	}
	u := still(t, "b0: / "+strings.Join(many, " "))
	imports := func(count int) plan.Project {
		p := project("b0")
		for i, dir := range many[:count] {
			p.Sources = append(p.Sources, file(fmt.Sprint("x", i, ".go"), source("a.x/b/"+dir)))
		}
		return p
	}
	next, e := plan.Step(imports(700), command("vendor"), u, nil, 3)
	is(t, "a long list, error", e, api.OK)
	is(t, "a long list", len(next.Vendor), 701)
	makesNot(t, imports(720), "vendor", u, api.ErrLong)
}

// The lock that was there counts for all commands: lines that are not among the
// new ones go.
func TestP16_6_Locked(t *testing.T) {
	u := still(t, "b0: d0 / .; b1: / .; d0: / .")
	locked := steps(t, project("b0 / .>b"), "vendor", u).Lock
	for _, c := range []string{"get b", "get b v1.1.0", "upgrade", "downgrade b v1.0.0", "vendor", "tidy"} {
		p := project("b0 / .>b")
		want := steps(t, p, c, u)
		for _, lock := range []string{locked, locked + "z.z v1.0.0 " + otherSum + "\n", "z.z v1.0.0 " + otherSum + "\n"} {
			p.Lock = lock
			is(t, c+", the lock", steps(t, p, c, u).Lock, want.Lock)
			is(t, c+", the manifest", steps(t, p, c, u).Manifest, want.Manifest)
		}
	}
}

// The lock is worked out by as many as are handed in.
func TestP16_6_Workers(t *testing.T) {
	u := still(t, "b0: c0 / .; c0: d0 / .; d0: / .; e0: / .; e1: / .")
	for _, c := range []string{"get e v1.1.0", "upgrade", "downgrade e v1.0.0", "vendor"} {
		for _, workers := range []int{1, 2, 4} {
			g := &gate{Universe: u, trees: true, want: workers, open: make(chan struct{})}
			_, e := plan.Step(project("b0 e0"), command(c), g, nil, workers)
			is(t, c+", error", e, api.OK)
			is(t, fmt.Sprint(c, ", fewer than ", workers, " at once"), g.late, false)
		}
	}
}

// The new manifest is the old one's form with other requires, whatever command.
func TestP16_6_Form(t *testing.T) {
	u := still(t, "b0: / .")
	p := project("b0 -d0 e=b0 ~ / .>b")
	f, _, e := modfile.Parse(p.Manifest)
	is(t, "Parse", e, api.OK)
	want, e := modfile.Format(f)
	is(t, "Format", e, api.OK)
	for _, c := range []string{"get b", "get b v1.0.0", "tidy", "upgrade", "downgrade b v1.0.0"} {
		is(t, c, steps(t, p, c, u).Manifest, want)
	}
}
