package mvs_test

import (
	"fmt"
	"strings"
	"testing"

	"mews/api"
	"mews/mvs"
)

// upgrades fails the test unless Upgrade answers these modules.
func upgrades(t *testing.T, text, up, want string) {
	t.Helper()
	for _, workers := range crews() {
		l, e := mvs.Upgrade(main(), parse(text).req, mods(up), workers)
		isList(t, fmt.Sprintf("Upgrade of %s to %s, %d workers", text, up, workers), l, e, want)
	}
}

// upgradesNot fails the test unless Upgrade answers an error.
func upgradesNot(t *testing.T, text, up string, want api.Errno) {
	t.Helper()
	for _, workers := range crews() {
		l, e := mvs.Upgrade(main(), parse(text).req, mods(up), workers)
		isError(t, fmt.Sprintf("Upgrade of %s to %.60s, %d workers", text, up, workers), l, e, want)
	}
}

func TestP15_3_Upgrade(t *testing.T) {
	upgrades(t, plain, "", "main b0 c0 d2")
	upgrades(t, "", "", "main")
	upgrades(t, plain, "c1", "main b0 c1 d3")
	upgrades(t, plain, "d10", "main b0 c0 d10")
	upgrades(t, plain, "c1 d10 b1", "main b1 c1 d10")
	// One that is not there comes, with what it requires.
	upgrades(t, plain, "zz0", "main b0 c0 d2 zz0")
	upgrades(t, plain+"; zz0: yy0 c1", "zz0", "main b0 c1 d3 yy0 zz0")
	upgrades(t, "", "b0 c0", "main b0 c0")
	// The same, or a lower one, leaves the greater one; but what it requires counts.
	upgrades(t, plain, "c0", "main b0 c0 d2")
	upgrades(t, plain, "d0", "main b0 c0 d2")
	upgrades(t, plain, "d1 b0", "main b0 c0 d2")
	upgrades(t, "main: b1; b1: c0; b0: c4", "b0", "main b1 c4")
	// What main requires stays, and stays reached.
	upgrades(t, "main: b0; b0: c5; b1: c1", "b1", "main b1 c5")
	// Twice, and at several versions.
	upgrades(t, plain, "c1 c1 c1", "main b0 c1 d3")
	upgrades(t, plain, "c1 c2", "main b0 c2 d3")
	upgrades(t, plain, "c2 c1", "main b0 c2 d3")
	// Main's path is passed over.
	upgrades(t, plain, "main m.m/main@v1.0.0", "main b0 c0 d2")
	upgrades(t, plain+"; m.m/main@v1.0.0: zz0", "m.m/main@v1.0.0 c1", "main b0 c1 d3")
}

// What up says is reached deep, as what main says is.
func TestP15_3_Pruned(t *testing.T) {
	upgrades(t, "main~: b0; b0~: c0; c0: d0", "", "main b0 c0")
	upgrades(t, "main~: b0; b0~: c0; c0: d0", "c0", "main b0 c0 d0")
	upgrades(t, "main~: b0; b0~: c0; c0: d0", "c1", "main b0 c1")
	upgrades(t, "main~: b0; b0~: c0; c1~: d0; d0: e0", "c1", "main b0 c1 d0")
	upgrades(t, "main: b0; b0~: c0; c1~: d0; d0: e0", "c1", "main b0 c1 d0 e0")
}

func TestP15_3_Errors(t *testing.T) {
	upgradesNot(t, "main: !25", "", 25)
	upgradesNot(t, "main: b0 !25", "b1 c0", 25)
	upgradesNot(t, "main: b0; b0: !25", "b1", 25)
	upgradesNot(t, "main: b0; b1: !25", "b1", 25)
	upgradesNot(t, "main: b0; b0: !7; b1: !25", "b1", 7)
	upgradesNot(t, "main: b1; b1: !25; b0: !7", "b0", 7)
	upgradesNot(t, "main: b0; c0: d0; d0: !25", "c0", 25)
	upgradesNot(t, "main: b0; b0: c0; c0: !25; d0: !7", "d0", 7)
	upgradesNot(t, "main: b0; b0: !25", several("c", 0, most), 25)
	upgradesNot(t, "main: b0", several("c", 0, most), api.ErrMany)
	upgradesNot(t, "", several("c", 0, most+1), api.ErrMany)
	many := several("c", 0, most)
	for _, workers := range crews() {
		l, e := mvs.Upgrade(main(), parse("main: c7 c8").req, mods(many), workers)
		isList(t, "Upgrade to so many", l, e, "main "+strings.Fields(many)[most-1])
	}
}
