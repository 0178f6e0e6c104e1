package ark_test

import (
	"fmt"
	"math/rand"
	"strings"
	"testing"

	"mews/api"
	"mews/ark"
)

// isName fails the test unless ValidName, and the model, say so of the text.
func isName(t *testing.T, name string, want bool) {
	t.Helper()
	is(t, fmt.Sprintf("ValidName(%q)", name), ark.ValidName(name), want)
	is(t, fmt.Sprintf("the model of ValidName(%q)", name), modelName(name), want)
}

func TestP6_2_Lengths(t *testing.T) {
	for count := range 420 {
		isName(t, strings.Repeat("a", count), 1 <= count && count <= 200)
		isName(t, strings.Repeat("a/", count)+"a", 2*count+1 <= 200)
	}
	isName(t, strings.Repeat("a", 100)+"/"+strings.Repeat("b", 99), true)
	isName(t, strings.Repeat("a", 100)+"/"+strings.Repeat("b", 100), false)
	isName(t, strings.Repeat("a", 1<<20), false)
}

func TestP6_2_EachByte(t *testing.T) {
	for c := range 256 {
		s := string([]byte{byte(c)})
		within := 0x20 <= c && c <= 0x7e && !strings.Contains(`\:*?"<>|`, s)
		atEnd := within && c != ' ' && c != '/'
		isName(t, s, atEnd && c != '.')
		isName(t, s+"a", atEnd)
		isName(t, "a"+s, atEnd)
		isName(t, "a"+s+"a", within)
		isName(t, "b/a"+s+"a/c", within)
		isName(t, "b/"+s+"a", atEnd)
		isName(t, "b/a"+s, atEnd)
		isName(t, s+"a/b", atEnd)
		isName(t, "a"+s+"/b", atEnd)
		isName(t, "b/"+s+"/c", atEnd && c != '.')
		isName(t, strings.Repeat("a", 198)+s+"a", within)
		isName(t, strings.Repeat("a", 199)+s, atEnd)
	}
}

func TestP6_2_Elements(t *testing.T) {
	for _, name := range []string{
		"a", "a b", "a  b", "a b/c d", "a/b/c", "...", "....", ".a", "a.", "..a", "a..", "a..b", ".a/.b", "a./b", "a/...", "a/.b", "-", "~", "!", "#$%&'()+,;=@[]^_`{}~",
		"go.mod", "a.b/c@v1.0.0/x.go", "A/B", "CON", "0", ". .", ".. ..", "a . b",
	} {
		isName(t, name, true)
	}
	for _, name := range []string{
		"", "/", "//", "/a", "a/", "a//b", "//a", "a//", ".", "..", "./a", "../a", "a/.", "a/..", "a/./b", "a/../b", " ", "  ", " a", "a ", "a/ b", "a /b", "a/b ", "a/ /b", "/ ", " /", ". ", " .", ".. ", " ..",
		"a\\b", "a:b", "a*", "a?", "\"a\"", "<a", "a>", "a|b", "\x7f", "\x1f", "a\tb", "a\nb", "a\n", "a\x00", "\x00", "\xc3\xa9", "a\xff", "c:/a", "\u212a", "\u00a0",
	} {
		isName(t, name, false)
	}
}

func TestP6_2_EachShortText(t *testing.T) {
	for _, name := range texts("aZ./ :\x7f", 6) {
		if ark.ValidName(name) != modelName(name) {
			t.Errorf("ValidName(%q): %v", name, ark.ValidName(name))
		}
	}
}

func TestP6_6_Prefix(t *testing.T) {
	is(t, "Prefix", ark.Prefix(module("a.b/c v1.0.0")), "a.b/c@v1.0.0/")
	is(t, "Prefix", ark.Prefix(module("a.b/C/v2 v2.1.0-rc.1")), "a.b/C/v2@v2.1.0-rc.1/")
	is(t, "Prefix of nothing", ark.Prefix(api.Mod{}), "@/")
	is(t, "Prefix of a path", ark.Prefix(api.Mod{Path: "x"}), "x@/")
	is(t, "Prefix of a version", ark.Prefix(api.Mod{Version: "v1.0.0"}), "@v1.0.0/")
	is(t, "Prefix of what is no module", ark.Prefix(api.Mod{Path: "\x00 ", Version: "/../"}), "\x00 @/..//")
}

func TestP6_6_Add(t *testing.T) {
	m := module("a.b/c v1.0.0")
	areFiles(t, "Add to none", ark.Add(nil, m), nil)
	files := []api.File{file("x.go", "x"), file("go.mod", ""), file("d/y.go", "y"), file("x.go", "z"), file("", "none"), file("a.b/c@v1.0.0/x", "twice")}
	areFiles(t, "Add", ark.Add(files, m), []api.File{
		file("a.b/c@v1.0.0/x.go", "x"), file("a.b/c@v1.0.0/go.mod", ""), file("a.b/c@v1.0.0/d/y.go", "y"),
		file("a.b/c@v1.0.0/x.go", "z"), file("a.b/c@v1.0.0/", "none"), file("a.b/c@v1.0.0/a.b/c@v1.0.0/x", "twice"),
	})
	areFiles(t, "Add of no module", ark.Add(named("a"), api.Mod{}), named("@/a"))
	is(t, "how many Add answers", len(ark.Add(many(1000), m)), 1000)
}

func TestP6_6_Strip(t *testing.T) {
	m := module("a.b/c v1.0.0")
	const prefix = "a.b/c@v1.0.0/"
	strips(t, nil, m, nil, api.OK)
	strips(t, named(prefix+"x"), m, named("x"), api.OK)
	strips(t, named(prefix+"z", prefix+"d/y", prefix+"a", prefix+"z"), m, named("z", "d/y", "a", "z"), api.OK)
	strips(t, named(prefix+prefix+"x", prefix+"/", prefix+"..", prefix+" ", prefix+"\x00"), m, named(prefix+"x", "/", "..", " ", "\x00"), api.OK)
	strips(t, named("@/a"), api.Mod{}, named("a"), api.OK)
	for _, name := range []string{
		"x", "", "/", prefix, "a.b/c@v1.0.0", "a.b/c", "a.b/c@v1.0.1/x", "a.b/d@v1.0.0/x", "A.b/c@v1.0.0/x", "a.b/c@V1.0.0/x", "/" + prefix + "x", " " + prefix + "x", "x" + prefix, "a.b/c@v1.0.0x/y", "a.b/c/d@v1.0.0/x", "b/c@v1.0.0/x",
	} {
		strips(t, named(name), m, nil, api.ErrName)
		strips(t, named(prefix+"x", prefix+"y", name), m, nil, api.ErrName)
		strips(t, named(name, prefix+"x"), m, nil, api.ErrName)
	}
	strips(t, named("x@v1.0.0/a"), api.Mod{}, nil, api.ErrName)
}

func TestP6_6_StripOfAdd(t *testing.T) {
	chance := rand.New(rand.NewSource(66))
	for range 1000 {
		files := drawFiles(chance, 8)
		m := api.Mod{Path: draw(chance, "", "a.b", "a.b/c", "x y"), Version: draw(chance, "", "v1.0.0", "v1.0.1", "/")}
		added := ark.Add(files, m)
		for i, f := range added {
			is(t, "its name", f.Name, m.Path+"@"+m.Version+"/"+files[i].Name)
			isBytes(t, "its bytes", f.Data, files[i].Data)
		}
		strips(t, added, m, files, api.OK)
	}
}
