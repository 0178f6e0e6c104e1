package scan_test

import (
	"fmt"
	"strings"
	"testing"

	"mews/api"
	"mews/scan"
)

// provides fails the test unless one of the modules is the package's.
func provides(t *testing.T, path string, mods []string, want string) {
	t.Helper()
	got, e := scan.Provider(path, mods)
	is(t, fmt.Sprintf("Provider(%q, %q)", path, mods), fmt.Sprintf("%q %d", got, e), fmt.Sprintf("%q %d", want, api.OK))
}

// providesNot fails the test unless none of the modules is.
func providesNot(t *testing.T, path string, mods []string) {
	t.Helper()
	got, e := scan.Provider(path, mods)
	is(t, fmt.Sprintf("Provider(%q, %q)", path, mods), fmt.Sprintf("%q %d", got, e), fmt.Sprintf("%q %d", "", api.ErrMissing))
}

func TestP14_4_Std(t *testing.T) {
	for path, want := range map[string]bool{
		"fmt": true, "": true, "a": true, "a/b": true, "a/b/c": true, "a/b.c": true, "a/b.c/d": true, "net/http": true, "a/.": true, "a/..": true, "A": true, "-": true, "a_b~c+d": true, "/": true, "/a.b": true, "//a.b": true, "a//b.c": true, "C": true, "é": true, "a b": true, "\x00": true, "a\\b": true, "main": true,
		".": false, "..": false, "a.b": false, "a.b/c": false, "a.b/c.d": false, ".a": false, "a.": false, "./a": false, "../a": false, "a./b": false, "x.y/z/v2": false, "example.com": false, "a.b/": false, "a..b/c": false, " .": false, "a\\b.c": false,
	} {
		is(t, fmt.Sprintf("Std(%q)", path), scan.Std(path), want)
	}
}

func TestP14_4_Provider(t *testing.T) {
	for _, x := range []struct{ path, mods, want string }{
		{"a.b", "a.b", "a.b"},
		{"a.b/c", "a.b/c", "a.b/c"},
		{"a.b/c", "a.b", "a.b"},
		{"a.b/c/d/e", "a.b", "a.b"},
		{"a.b/c/d", "a.b a.b/c", "a.b/c"},
		{"a.b/c/d", "a.b/c a.b", "a.b/c"},
		{"a.b/c/d", "a.b a.b/c a.b/c/d a.b/c/d/e", "a.b/c/d"},
		{"a.b/c/d", "a.b/c/d/e a.b/c/d a.b/c a.b", "a.b/c/d"},
		{"a.b/c/d", "a.b/c a.b/c/d a.b", "a.b/c/d"},
		{"a.b/c", "a.b a.b/c/d", "a.b"},
		{"a.b/cd", "a.b a.b/c", "a.b"},
		{"a.b/cd", "a.b/c a.b a.b/cde a.b/", "a.b"},
		{"a.b/c/d", "a.b a.b a.b/c a.b/c", "a.b/c"},
		{"a.b/c-d", "a.b a.b/c a.b/c-", "a.b"},
		{"a.b/c.d", "a.b a.b/c", "a.b"},
		{"a.b/v2/c", "a.b a.b/v2", "a.b/v2"},
		{"a.b/v2", "a.b a.b/v2 a.b/v3", "a.b/v2"},
		{"a.b/C", "a.b a.b/c", "a.b"},
		{"fmt", "fmt", "fmt"},
		{"a.b/", "a.b", "a.b"},
		{"a.b//c", "a.b a.b/", "a.b/"},
		{"/", "/", "/"},
		{"a.b/c", "x.y q.r/s a.b t.u", "a.b"},
	} {
		provides(t, x.path, list(x.mods), x.want)
		provides(t, x.path, append(list(x.mods), list("a x.y a.b/c/d/e/f/g "+x.path+"x "+x.path+"/x")...), x.want)
	}
	// The empty text is a beginning of what begins with a `/`, and of itself.
	provides(t, "", []string{""}, "")
	provides(t, "/a", []string{"", "a"}, "")
	provides(t, "/a/b", []string{"/a", ""}, "/a")
}

func TestP14_4_NoProvider(t *testing.T) {
	for _, x := range []struct{ path, mods string }{
		{"a.b", "a.bc a.b/ a.b/c a A.B a.B x.y"},
		{"a.b/c", "a.b/c/d a.b/ c b/c a.b/C a.b/cc a.b/c/ /a.b a"},
		{"a.bc", "a.b"},
		{"a.b-c", "a.b"},
		{"a.b.c", "a.b"},
		{"fmt", "fm fmtx x.y"},
		{"", "a a.b /"},
		{"/a", "a /a/"},
		{"a.b/c d", "a.b/c"},
	} {
		providesNot(t, x.path, list(x.mods))
		for _, m := range list(x.mods) {
			providesNot(t, x.path, list(m))
		}
	}
	providesNot(t, "", nil)
	providesNot(t, "a.b", nil)
	providesNot(t, "a.b", []string{})
	providesNot(t, "a.b", []string{"", "", ""})
	providesNot(t, "", []string{"/", " "})
	many := strings.Fields(strings.Repeat("a.b/x ", 5000))
	providesNot(t, "a.b", many)
	provides(t, "a.b/x/y", append(many, "a.b"), "a.b/x")
}
