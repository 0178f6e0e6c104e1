package scan_test

import (
	"fmt"
	"strings"
	"testing"

	"mews/scan"
)

// tagLists are lists of tags; every set of the systems and architectures is there.
func tagLists() [][]string {
	all := list("linux darwin windows amd64 arm64")
	lists := [][]string{nil, {}, {""}, list("x go test"), list("linux linux amd64 amd64"), list("Linux AMD64 linux.go _linux linux_amd64")}
	for bits := range 1 << len(all) {
		var tags []string
		for i, tag := range all {
			if bits>>i&1 == 1 {
				tags = append(tags, tag)
			}
		}
		lists = append(lists, tags)
	}
	return lists
}

// counts fails the test unless a file of that name counts just where all of the
// tags are there that stand behind it, with blanks between.
func counts(t *testing.T, name, wanted string) {
	t.Helper()
	for _, tags := range tagLists() {
		want := true
		for _, tag := range list(wanted) {
			want = want && strings.Contains(" "+strings.Join(tags, " ")+" ", " "+tag+" ")
		}
		is(t, fmt.Sprintf("Name(%q, %q)", name, tags), scan.Name(name, tags), want)
	}
}

func countsNever(t *testing.T, name string) {
	t.Helper()
	for _, tags := range append(tagLists(), []string{name}) {
		is(t, fmt.Sprintf("Name(%q, %q)", name, tags), scan.Name(name, tags), false)
	}
}

func TestP14_3_NamesThatCount(t *testing.T) {
	for name, wanted := range map[string]string{
		"a.go": "", "A.go": "", "1.go": "", "a.b.go": "", "a.go.go": "", "é.go": "", "\xff.go": "", " .go": "", "-.go": "", "test.go": "", "a_b.go": "", "a__b.go": "", "a_.go": "", "a__.go": "", "a_b_c_d.go": "", "testing.go": "", "a_tests.go": "", "a_Test.go": "", "a_test_b.go": "", "a_test_.go": "", "test_a.go": "", "atest.go": "", "a-test.go": "", "a.test.go": "", "a_test.x.go": "", "a_test.go.go": "", "doc.go": "", "go.go": "", "a/b.go": "", "a/_b.go": "", "a/.go": "", "a/b_.go": "",
		// As the first piece neither counts.
		"linux.go": "", "darwin.go": "", "windows.go": "", "amd64.go": "", "arm64.go": "", "linux_x.go": "", "arm64_x.go": "", "linux_amd64_x.go": "", "linux_.go": "", "amd64_.go": "",
		// The last piece.
		"a_linux.go": "linux", "a_darwin.go": "darwin", "a_windows.go": "windows", "a_amd64.go": "amd64", "a_arm64.go": "arm64",
		"a_b_linux.go": "linux", "a_b_amd64.go": "amd64", "a__linux.go": "linux", "a__amd64.go": "amd64", "a_test_linux.go": "linux", "a_test_arm64.go": "arm64", "a.b_linux.go": "linux", "1_linux.go": "linux", "a-b_amd64.go": "amd64", "é_darwin.go": "darwin", "linux_darwin.go": "darwin", "linux_linux.go": "linux", "amd64_linux.go": "linux", "linux_amd64.go": "amd64", "amd64_amd64.go": "amd64", "windows_arm64.go": "arm64", "amd64_arm64.go": "arm64", "a/linux_amd64.go": "amd64",
		// The one ahead of it.
		"a_linux_amd64.go": "linux amd64", "a_linux_arm64.go": "linux arm64", "a_darwin_amd64.go": "darwin amd64", "a_darwin_arm64.go": "darwin arm64", "a_windows_amd64.go": "windows amd64", "a_windows_arm64.go": "windows arm64",
		"a_b_linux_amd64.go": "linux amd64", "a__linux_amd64.go": "linux amd64", "linux_darwin_amd64.go": "darwin amd64", "amd64_linux_arm64.go": "linux arm64", "linux_linux_amd64.go": "linux amd64", "a_linux_darwin_arm64.go": "darwin arm64", "a_windows_linux_amd64.go": "linux amd64", "a_test_linux_amd64.go": "linux amd64",
		"a_amd64_linux.go": "linux", "a_arm64_linux.go": "linux", "a_amd64_arm64.go": "arm64", "a_linux_darwin.go": "darwin", "a_linux_linux.go": "linux", "a_amd64_amd64.go": "amd64", "a_linux_amd64_arm64.go": "arm64", "a_linux_amd64_darwin.go": "darwin", "a_amd64_linux_arm64.go": "linux arm64",
		// One that nobody knows between, or behind.
		"a_linux_b.go": "", "a_amd64_b.go": "", "a_linux_amd64_b.go": "", "a_linux_b_amd64.go": "amd64", "a_linux__amd64.go": "amd64", "a_b_linux_c.go": "", "a_linux_.go": "", "a_amd64_.go": "", "a_linux_amd64_.go": "", "a_darwin_b_linux.go": "linux", "a_linux_test_amd64.go": "amd64",
		// Nearly one.
		"a_Linux.go": "", "a_LINUX.go": "", "a_linux1.go": "", "a_1linux.go": "", "a_linu.go": "", "a_AMD64.go": "", "a_amd.go": "", "a_amd644.go": "", "a_386.go": "", "a_arm.go": "", "a_freebsd.go": "", "a_unix.go": "", "a_js_wasm.go": "", "a_freebsd_amd64.go": "amd64", "a_linux_386.go": "", "a_linux.x.go": "", "a_x.linux.go": "", "a_linux.go.go": "", "a_amd64.b.go": "", "alinux.go": "", "aamd64.go": "", "a-linux.go": "", "a.linux.go": "", "a_ linux.go": "", "a_linux .go": "", "a_go.go": "", "a_linuxamd64.go": "", "a_linux-amd64.go": "", "a_Linux_amd64.go": "amd64", "a_linux_AMD64.go": "",
	} {
		counts(t, name, wanted)
	}
}

func TestP14_3_NamesThatNeverCount(t *testing.T) {
	for _, name := range []string{
		"", "a", "go", ".go", "a.c", "a.g", "a.go ", " a.goo", "a.go.c", "a.Go", "a.GO", "ago", "a_go", "a.go_", "a.go~", "a.go/", "a.s", "go.mod", "a.txt", "a.go\n", "a.go\x00", "linux", "a_linux", "a_linux_amd64", "a_linux.c", "a/b",
		"_a.go", "_.go", "__.go", "_linux.go", "_amd64.go", "_linux_amd64.go", "_a_linux.go", "__linux.go", "_test.go", "_a_test.go", "_.a.go", "_a",
		"..go", ".a.go", "..a.go", "._a.go", ".linux.go", ".a_linux.go", ".a_linux_amd64.go", ".a_test.go", "._test.go", ".a", ".", "..", "_", "...go",
		"a_test.go", "a_b_test.go", "a__test.go", "test_test.go", "a_linux_test.go", "a_amd64_test.go", "a_linux_amd64_test.go", "linux_test.go", "amd64_test.go", "1_test.go", "é_test.go", "a._test.go", "a.go_test.go", "a/b_test.go", "a/_test.go", "a_test_test.go",
	} {
		countsNever(t, name)
	}
}

// All names of a few pieces, against a second reading.
func TestP14_3_AllOfAFewPieces(t *testing.T) {
	pieces := list("a test linux darwin amd64 arm64 .b")
	pieces = append(pieces, "")
	names := []string{""}
	for range 4 {
		var longer []string
		for _, name := range names {
			for _, piece := range pieces {
				longer = append(longer, name+"_"+piece)
			}
		}
		for _, name := range longer {
			for _, end := range []string{".go", "", ".c"} {
				for _, tags := range [][]string{nil, list("linux amd64"), list("linux"), list("arm64 darwin linux amd64")} {
					is(t, fmt.Sprintf("Name(%q, %q)", name[1:]+end, tags), scan.Name(name[1:]+end, tags), modelName(name[1:]+end, tags))
				}
			}
		}
		names = longer
	}
}
