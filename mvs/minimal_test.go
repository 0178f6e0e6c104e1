package mvs_test

import (
	"fmt"
	"strings"
	"testing"

	"mews/api"
	"mews/mvs"
)

// pathsOf are the paths of short names: `b c` are a.x/b and a.x/c.
func pathsOf(s string) []string {
	var l []string
	for _, x := range strings.Fields(s) {
		l = append(l, word(x+"0").Path)
	}
	return l
}

// minimal fails the test unless Minimal answers these modules.
func minimal(t *testing.T, text, direct, want string) {
	t.Helper()
	for _, workers := range crews() {
		l, e := mvs.Minimal(main(), parse(text).req, pathsOf(direct), workers)
		isList(t, fmt.Sprintf("Minimal of %.200s with %s, %d workers", text, direct, workers), l, e, want)
	}
}

func TestP15_5_Direct(t *testing.T) {
	minimal(t, "", "", "")
	minimal(t, "", "b", "")
	minimal(t, "main: b0", "", "b0")
	// None, all of them, and such as the list has not.
	minimal(t, plain, "", "b0 c0")
	minimal(t, plain, "b", "b0 c0")
	minimal(t, plain, "d", "b0 c0 d2")
	minimal(t, plain, "b c d", "b0 c0 d2")
	minimal(t, plain, "d c b d", "b0 c0 d2")
	minimal(t, plain, "zz y", "b0 c0")
	minimal(t, "main: b0; b0: c0; c0: d0; d0: e0", "", "b0")
	minimal(t, "main: b0; b0: c0; c0: d0; d0: e0", "d", "b0 d0")
	minimal(t, "main: b0; b0: c0; c0: d0; d0: e0", "b c d e", "b0 c0 d0 e0")
	// Direct is a path as a whole, and main's is none of the list's.
	for _, direct := range [][]string{{"a.x/dd"}, {"a.x"}, {"d"}, {""}, {"A.x/d"}, {"m.m/main"}, {"a.x/d/"}} {
		l, e := mvs.Minimal(main(), parse(plain).req, direct, 2)
		isList(t, fmt.Sprintf("Minimal with %q", direct), l, e, "b0 c0")
	}
}

// A list that is the same has the same versions, and no other path.
func TestP15_5_TheSame(t *testing.T) {
	minimal(t, "main: b0 d3; b0: d1", "", "b0 d3")
	minimal(t, "main: b0 d1; b0: d1", "", "b0")
	minimal(t, "main: b0 d1; b0: d3", "", "b0")
	minimal(t, "main: b0 d1; b0: d3", "d", "b0 d3")
	minimal(t, "main: b0 c0; b0: c1", "", "b0")
	// Where a lesser version, which is no more, had brought something.
	minimal(t, "main: b0 c0; c0: b1; b0: d5", "", "c0 d5")
	minimal(t, "main: b0 c0; c0: b1; b0: d5; d5: b0", "", "c0 d5")
	// One that goes would bring another version of what stays.
	minimal(t, "main: b0 c0; b0: c0 d0; c0: d0", "", "b0")
	minimal(t, "main: b0 c0; b0: d0; c0: d0", "", "b0 c0")
}

// By falling paths: where one can go only if another one has not, the greatest does.
func TestP15_5_Falling(t *testing.T) {
	minimal(t, "main: b0 c0; b0: c0; c0: b0", "", "b0")
	minimal(t, "main: b0 c0; b0: c0; c0: b0", "c", "c0")
	minimal(t, "main: b0 c0; b0: c0; c0: b0", "b", "b0")
	minimal(t, "main: b0 c0; b0: c0; c0: b0", "b c", "b0 c0")
	minimal(t, "main: b0 c0 d0 e0; b0: c0; c0: d0; d0: e0; e0: b0", "", "b0")
	minimal(t, "main: b0 c0 d0 e0; b0: c0; c0: d0; d0: e0; e0: b0", "d", "d0")
	minimal(t, "main: b0 c0 d0 e0; b0: c0; c0: d0; d0: e0; e0: b0", "c e", "c0 e0")
	// Of b or e each alone would be enough.
	minimal(t, "main: b0 c0 e0; b0: e0; e0: b0 c0", "", "b0")
	minimal(t, "main: b0 c0 e0; b0: e0; e0: b0", "", "b0 c0")
}

// Where main is pruned, what main requires instead may not say the same.
func TestP15_5_Pruned(t *testing.T) {
	minimal(t, "main~: b0; b0~: c0; c0: d2", "", "b0")
	minimal(t, "main~: b0; b0~: c0; c0: d2", "c", "b0 c0")
	minimal(t, "main~: b0; b0~: c0; c0: d2", "b", "b0")
	minimal(t, "main~: b0 c0; b0~: c0; c0: d2", "", "b0 c0")
	minimal(t, "main~: b0 c0; b0: c0; c0: d2", "", "b0")
	minimal(t, "main~: b0 c0; b0~: c0; c0~: d2", "", "b0 c0")
	minimal(t, "main: b0 c0; b0~: c0; c0~: d2", "", "b0")
	// As long as d stays it is asked, and no list is the same.
	minimal(t, "main~: b0; b0~: c0 d0; d0: e0", "", "b0")
	minimal(t, "main~: b0; b0~: c0 d0; d0: e0", "d", "b0 c0 d0")
}

func TestP15_5_Errors(t *testing.T) {
	for text, want := range map[string]api.Errno{
		"main: !25": 25, "main: b0; b0: !25": 25, "main: c0 b0; b0: !25; c0: !7": 25, "main: " + several("b", 0, most+1): api.ErrMany,
	} {
		for _, workers := range crews() {
			for _, direct := range [][]string{nil, pathsOf("b"), pathsOf("b c zz")} {
				l, e := mvs.Minimal(main(), parse(text).req, direct, workers)
				isError(t, "Minimal of "+text, l, e, want)
			}
		}
	}
	// A later one only says that a module stays, also where it could go once
	// another one has.
	minimal(t, "main~: b0; b0~: c0; c0: !25", "", "b0")
	minimal(t, "main~: b0; b0~: c0; c0: !25", "c", "b0 c0")
	minimal(t, "main~: b0 e0; b0~: c0 d0; c0: !25; e0: d0", "", "b0 d0 e0")
	minimal(t, "main~: b0 e0; b0~: c0 d0; c0: !25; e0: d0", "c", "b0 c0 d0 e0")
	minimal(t, "main~: b0; b0~: c0; c0: "+several("d", 0, most), "", "b0")
	minimal(t, "main~: b0; b0~: c0; c0: "+several("d", 0, most), "c", "b0 c0")
}
