package tlog_test

import (
	"fmt"
	"math/rand"
	"strings"
	"testing"

	"mews/api"
	"mews/tlog"
)

// parses fails the test unless ParsePath answers so.
func parses(t *testing.T, s string, want tlog.Tile, wantE api.Errno) {
	t.Helper()
	got, e := tlog.ParsePath(s)
	is(t, fmt.Sprintf("ParsePath(%.100q)", s), got, want)
	is(t, fmt.Sprintf("ParsePath(%.100q), its error", s), e, wantE)
}

// prints fails the test unless Path answers so.
func prints(t *testing.T, tile tlog.Tile, want string, wantE api.Errno) {
	t.Helper()
	got, e := tlog.Path(tile)
	is(t, fmt.Sprintf("Path(%v)", tile), got, want)
	is(t, fmt.Sprintf("Path(%v), its error", tile), e, wantE)
}

func TestP7_6_Examples(t *testing.T) {
	prints(t, tlog.Tile{H: 2, L: 0, N: 1234067, W: 4}, "", api.ErrForm)
	prints(t, tlog.Tile{H: 2, L: 0, N: 1, W: 1}, "tile/2/0/001.p/1", api.OK)
	parses(t, "tile/2/0/001.p/4", tlog.Tile{}, api.ErrForm)
}

func TestP7_6_Paths(t *testing.T) {
	for s, tile := range map[string]tlog.Tile{
		"tile/1/0/000":            {H: 1, W: 2},
		"tile/1/0/000.p/1":        {H: 1, W: 1},
		"tile/1/0/005":            {H: 1, N: 5, W: 2},
		"tile/1/0/x524/287":       {H: 1, N: 1<<19 - 1, W: 2},
		"tile/1/20/000.p/1":       {H: 1, L: 20, W: 1},
		"tile/1/19/000":           {H: 1, L: 19, W: 2},
		"tile/2/0/999":            {H: 2, N: 999, W: 4},
		"tile/2/0/x001/000":       {H: 2, N: 1000, W: 4},
		"tile/2/0/x001/001.p/3":   {H: 2, N: 1001, W: 3},
		"tile/2/0/x100/000":       {H: 2, N: 100000, W: 4},
		"tile/2/10/000.p/1":       {H: 2, L: 10, W: 1},
		"tile/3/5/003":            {H: 3, L: 5, N: 3, W: 8},
		"tile/8/0/000.p/10":       {H: 8, W: 10},
		"tile/8/0/000.p/255":      {H: 8, W: 255},
		"tile/8/0/000":            {H: 8, W: 256},
		"tile/8/0/x004/095":       {H: 8, N: 4095, W: 256},
		"tile/8/0/x004/095.p/255": {H: 8, N: 4095, W: 255},
		"tile/8/1/015":            {H: 8, L: 1, N: 15, W: 256},
		"tile/8/2/000.p/16":       {H: 8, L: 2, W: 16},
	} {
		prints(t, tile, s, api.OK)
		parses(t, s, tile, api.OK)
	}
}

// One place too far, in each row of tiles of each height.
func TestP7_6_TooFar(t *testing.T) {
	for h := 1; h <= 8; h++ {
		for row := range 22 {
			there := 0
			if h*row <= 20 {
				there = api.MaxRecords >> (h * row)
			}
			for _, number := range []int{0, 1, there>>h - 1, there >> h, there>>h + 1} {
				for w := 1; w <= 1<<h; w++ {
					tile := tlog.Tile{H: h, L: row, N: number, W: w}
					want, wantE := modelPathOf(tile)
					is(t, fmt.Sprint("whether the model has ", tile), wantE == api.OK, number >= 0 && number<<h+w <= there)
					prints(t, tile, want, wantE)
				}
			}
		}
	}
	for _, s := range []string{"tile/1/0/x524/288", "tile/1/0/x524/288.p/1", "tile/8/0/x004/096.p/1", "tile/1/20/000", "tile/1/20/001.p/1", "tile/1/21/000.p/1", "tile/8/3/000.p/1", "tile/8/2/000.p/17", "tile/8/2/000", "tile/2/10/000.p/2", "tile/2/11/000.p/1", "tile/2/0/x001/x234/067", "tile/1/99999999999999999999/000", "tile/8/2305843009213693952/000.p/1", "tile/8/0/x072/x057/x594/x037/x927/936.p/1", "tile/8/0/x999/x999/x999/x999/x999/x999/x999/999.p/1"} {
		parses(t, s, tlog.Tile{}, api.ErrForm)
	}
}

func TestP7_6_PathEdges(t *testing.T) {
	for _, tile := range edgeTiles() {
		want, wantE := modelPathOf(tile)
		got, e := tlog.Path(tile)
		if got != want || e != wantE {
			t.Errorf("Path(%v): %s, error %d, not %s, error %d", tile, got, e, want, wantE)
		}
	}
}

func TestP7_6_WrongPaths(t *testing.T) {
	for _, s := range []string{
		"", "/", "tile", "tile/", "tile/2", "tile/2/", "tile/2/0", "tile/2/0/", "tile//0/001", "tile/2//001", "///", "////",
		"tale/2/0/001", "Tile/2/0/001", "tiles/2/0/001", "/tile/2/0/001", " tile/2/0/001", "tile/2/0/001 ", "tile /2/0/001", "2/0/001", "atile/2/0/001",
		"tile/0/0/001", "tile/9/0/001", "tile/10/0/001", "tile/-1/0/001", "tile/-2/0/001", "tile/+2/0/001", "tile/02/0/001", "tile/a/0/001", "tile/64/0/001", "tile/256/0/001", "tile/2.0/0/001", "tile/\xd9\xa2/0/001",
		"tile/2/-1/001", "tile/2/-0/001", "tile/2/+0/001", "tile/2/00/001", "tile/2/01/001", "tile/2/a/001", "tile/2/ 0/001", "tile/2/1_0/000.p/1", "tile/2/0x0/001",
		"tile/2/0/1", "tile/2/0/01", "tile/2/0/0001", "tile/2/0/1000", "tile/2/0/001001", "tile/2/0/00a", "tile/2/0/-01", "tile/2/0/+01", "tile/2/0/ 01", "tile/2/0/-001",
		"tile/2/0/x001", "tile/2/0/x001/", "tile/2/0/x001/x001", "tile/2/0/001/001", "tile/2/0/x000/001", "tile/2/0/x000/x000/001", "tile/2/0/000/001", "tile/2/0/x1/001", "tile/2/0/x01/001", "tile/2/0/x0001/001", "tile/2/0/x001/1", "tile/2/0/x001/01", "tile/2/0/x001/0001",
		"tile/2/0/xx001/001", "tile/2/0/X001/001", "tile/2/0/001x/001", "tile/2/0/x001//001", "tile/2/0//001", "tile/2/0/x/001", "tile/2/0/x001/00x1", "tile/2/0/x001001", "tile/2/0/00/1001", "tile/2/0/x", "tile/2/0/xxx",
		"tile/2/0/001/", "tile/2/0/001//", "tile/2/0/001/0", "tile/2/0/001.", "tile/2/0/001.p", "tile/2/0/001.p/", "tile/2/0/001p/1", "tile/2/0/001.p1", "tile/2/0/001.q/1", "tile/2/0/001/p/1", "tile/2/0/001.P/1", "tile/2/0/001/.p/1", "tile/2/0/.p/1", "tile/2/0.p/1", "tile/2/0/001\n", "tile/2/0/001\x00",
		"tile/2/0/001.p/0", "tile/2/0/001.p/4", "tile/2/0/001.p/5", "tile/2/0/001.p/-1", "tile/2/0/001.p/+1", "tile/2/0/001.p/01", "tile/2/0/001.p/a", "tile/2/0/001.p/1/", "tile/2/0/001.p/1/1", "tile/2/0/001.p/1 ", "tile/2/0/001.p/ 1", "tile/2/0/001.p/1.p/1", "tile/2/0/001.p/1.p/", "tile/2/0/001.p/1\n", "tile/2/0/001.p/.p/1", "tile/2/0/.p/001",
		"tile/1/0/001.p/2", "tile/8/0/000.p/256", "tile/8/0/000.p/257", "tile/8/0/000.p/99999999999999999999", "tile/8/0/99999999999999999999", "tile/99999999999999999999/0/001",
		strings.Repeat("/", 1000), strings.Repeat("x", 1000), "tile/2/0/" + strings.Repeat("0", 100000) + "1", "tile/2/0/" + strings.Repeat("x000/", 10000) + "001", "tile/2/0/001" + strings.Repeat(".p/1", 1000),
	} {
		parses(t, s, tlog.Tile{}, api.ErrForm)
		if _, e := modelParse(s); e != api.ErrForm {
			t.Errorf("the model takes %q", s)
		}
	}
}

// Each sign of some paths left out, doubled, or turned into each byte.
func TestP7_6_OneSignOther(t *testing.T) {
	for _, s := range []string{"tile/2/0/001", "tile/2/0/001.p/1", "tile/8/1/000.p/16", "tile/1/8/x001/023", "tile/1/8/x001/023.p/1", "tile/8/0/x004/095.p/255"} {
		is(t, "whether the model takes "+s, asModel(t, s), api.OK)
		for place := range len(s) + 1 {
			for c := range 256 {
				asModel(t, s[:place]+string([]byte{byte(c)})+s[place:])
				if place < len(s) {
					asModel(t, s[:place]+string([]byte{byte(c)})+s[place+1:])
				}
			}
			if place < len(s) {
				asModel(t, s[:place]+s[place+1:])
				asModel(t, s[:place])
				asModel(t, s[place:])
			}
		}
	}
}

// asModel fails the test unless ParsePath answers as the model does.
func asModel(t *testing.T, s string) api.Errno {
	t.Helper()
	want, wantE := modelParse(s)
	got, e := tlog.ParsePath(s)
	if got != want || e != wantE {
		t.Errorf("ParsePath(%q): %v, error %d, not %v, error %d", s, got, e, want, wantE)
	}
	return e
}

func TestP7_6_DrawnPaths(t *testing.T) {
	chance := rand.New(rand.NewSource(76))
	draw := func(list ...string) string { return list[chance.Intn(len(list))] }
	found := map[api.Errno]int{}
	slash := func() string { return draw("/", "/", "/", "/", "/", "/", "/", "") }
	for range 200000 {
		s := draw("tile/", "tile/", "tile/", "tile/", "tile/", "tile", "") + draw("1", "2", "8", "8", "3", "0", "9", "01") + slash() + draw("0", "0", "0", "1", "2", "20", "00", "-1")
		for range chance.Intn(8) / 3 {
			s += slash() + draw("x", "x", "x", "") + draw("001", "004", "002", "000", "12", "999", "0001")
		}
		s += slash() + draw("000", "015", "999", "123", "x001", "1", "0000")
		if chance.Intn(3) > 0 {
			s += draw(".p/", ".p/", ".p/", ".p", ".p//") + draw("", "1", "1", "3", "15", "255", "256", "0", "01")
		}
		found[asModel(t, s)]++
	}
	is(t, fmt.Sprint("whether there were enough: ", found), found[api.OK] > 3000 && found[api.ErrForm] > 3000, true)
}
