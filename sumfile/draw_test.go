package sumfile_test

import (
	"fmt"
	"math/rand"
	"slices"
	"strings"

	"mews/api"
	"mews/sumfile"
)

// draw is one of them by chance.
func draw[T any](chance *rand.Rand, all ...T) T { return all[chance.Intn(len(all))] }

// shuffled is the list in another order.
func shuffled[T any](chance *rand.Rand, list []T) []T {
	mixed := slices.Clone(list)
	chance.Shuffle(len(mixed), func(i, k int) { mixed[i], mixed[k] = mixed[k], mixed[i] })
	return mixed
}

func drawModule(chance *rand.Rand) api.Mod {
	path := draw(chance, "x.y", "x.y/v2", "x.y/z", "a.b", "a.b-c", "a.b/c", "x.y/Z", fmt.Sprint("q.q/", chance.Intn(20)))
	if strings.HasSuffix(path, "/v2") {
		return api.Mod{Path: path, Version: draw(chance, "v2.0.0", "v2.1.0-rc.1")}
	}
	return api.Mod{Path: path, Version: draw(chance, "v1.0.0", "v0.1.0", "v1.2.0", "v1.10.0", "v1.0.0-a", "v1.0.0-a.1", "v0.0.0-20200102030405-abcdefabcdef")}
}

// drawLine is a line that may be; its sum hangs on its module and kind.
func drawLine(chance *rand.Rand) sumfile.Line {
	l := sumfile.Line{Mod: drawModule(chance), Kind: chance.Intn(2)}
	l.Sum = sumOf(fmt.Sprint(l))
	return l
}

// drawLock is lines, no two of them of the same module and kind, in any order.
func drawLock(chance *rand.Rand) []sumfile.Line {
	var l []sumfile.Line
	for range chance.Intn(25) {
		if line := drawLine(chance); !slices.Contains(l, line) {
			l = append(l, line)
		}
	}
	return l
}

// drawVendor is a vendor list that may be, in any order.
func drawVendor(chance *rand.Rand) []sumfile.Vendored {
	var l []sumfile.Vendored
	for range chance.Intn(8) {
		m := drawModule(chance)
		if !slices.ContainsFunc(l, func(v sumfile.Vendored) bool { return v.Mod == m }) {
			l = append(l, sumfile.Vendored{Mod: m, Explicit: chance.Intn(2) == 0, Packages: drawPackages(chance, m.Path)})
		}
	}
	return l
}

func drawPackages(chance *rand.Rand, path string) []string {
	var all []string
	for range chance.Intn(6) {
		p := path + draw(chance, "", "/a", "/b", "/a/b", "/a+b", "/a-b", "/B", "/v1", "/internal/x")
		if !slices.Contains(all, p) {
			all = append(all, p)
		}
	}
	return all
}

// writtenLock is a lock's text, as its lines come.
func writtenLock(l []sumfile.Line) string {
	text := ""
	for _, line := range l {
		text += fmt.Sprintf("%s %s%s %s\n", line.Mod.Path, line.Mod.Version, []string{"", "/go.mod"}[line.Kind], line.Sum)
	}
	return text
}

// writtenVendor is a vendor list's text, as its modules and packages come.
func writtenVendor(l []sumfile.Vendored) string {
	text := ""
	for _, v := range l {
		text += fmt.Sprintf("# %s %s\n", v.Mod.Path, v.Mod.Version)
		if v.Explicit {
			text += "## explicit\n"
		}
		text += lines(v.Packages...)
	}
	return text
}

// spoiltText is the text with something done to it that may be a fault, or nothing.
func spoiltText(chance *rand.Rand, text string) string {
	for range chance.Intn(3) {
		all := strings.Split(text, "\n")
		at := chance.Intn(len(all))
		switch chance.Intn(6) {
		case 0:
			all = slices.Insert(all, at, draw(chance, "", "x", "#", "# x.y", "## explicit", "# x.y v1.0.0", "# x.y v2.0.0", "x.y", "x.y/a", "a.b/c", "q.q/1", "x.y v1.0.0 "+sumA, "x.y v1.0.0/go.mod "+sumA, "x.y v1.0.0 x", "xy v1.0.0 "+sumA, overPath))
		case 1:
			all[at] += draw(chance, " ", "x", "/", " x", "/go.mod", "=", "\r", "\t", "#", "\xff", ".")
		case 2:
			all[at] = strings.Replace(all[at], draw(chance, " ", "/", "v1", "v", "0", "=", "#", "x.y", ".", "h1:", "/go.mod", "# "), draw(chance, "", "x", " ", "=", "v2", "1", "/", "#", "## ", "  "), 1)
		case 3:
			all = slices.Insert(all, at, all[chance.Intn(len(all))])
		case 4:
			all = slices.Delete(all, at, at+1)
		case 5:
			all[at] = draw(chance, " ", "#", "# ", "x", "\t") + all[at]
		}
		text = strings.Join(all, "\n")
	}
	return text
}
