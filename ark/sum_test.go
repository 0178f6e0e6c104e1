package ark_test

import (
	"bytes"
	"fmt"
	"math/rand"
	"strings"
	"testing"

	"mews/api"
	"mews/ark"
)

const (
	manifestText = "module a.b/c\n"
	manifestSum  = "h1:GB3V+RHYJ0Fh5yVdkr/FJ2NLxxU/jcQfOueJ31XcEPE="
	sumOfNone    = "h1:47DEQpj8HBSa+/TImW+5JCeuQeRkm5NMpJWZG3hSuFU="
)

func TestP6_5_Examples(t *testing.T) {
	is(t, "ManifestSum", ark.ManifestSum([]byte(manifestText)), manifestSum)
	sums(t, []api.File{file("go.mod", manifestText)}, manifestSum, api.OK)
	files := []api.File{file("a.b/c@v1.0.0/go.mod", manifestText), file("a.b/c@v1.0.0/x.go", "package c\n")}
	sums(t, files, "h1:FJlczEz7dPvtK22Sn6xX7+c9jcgvi4lX4eLDONGH9c8=", api.OK)
	sums(t, nil, sumOfNone, api.OK)
	sums(t, []api.File{}, sumOfNone, api.OK)
}

// The lines, written out: with what sha256sum tells of the texts.
func TestP6_5_Lines(t *testing.T) {
	text := "e3b0c44298fc1c149afbf4c8996fb92427ae41e4649b934ca495991b7852b855  a b/none\n" +
		"ba7816bf8f01cfea414140de5dae2223b00361a396177a9cb410ff61f20015ad  b\n"
	want := "h1:" + ark.Base64(ark.SHA256([]byte(text)))
	sums(t, []api.File{file("b", "abc"), file("a b/none", "")}, want, api.OK)
	sums(t, []api.File{file("a b/none", ""), file("b", "abc")}, want, api.OK)
}

func TestP6_5_ManifestSum(t *testing.T) {
	chance := rand.New(rand.NewSource(65))
	for _, data := range [][]byte{nil, {}, {0}, []byte(manifestText), drawBytes(chance, 100), drawBytes(chance, 5000), make([]byte, 1<<16), make([]byte, 1<<21)} {
		f := api.File{Name: "go.mod", Data: data}
		sum := ark.ManifestSum(data)
		is(t, "ManifestSum", sum, modelSum([]api.File{f}))
		sums(t, []api.File{f}, sum, api.OK)
	}
}

func TestP6_5_ManyAndLong(t *testing.T) {
	for _, count := range []int{1, 100, 101, 3000} {
		sums(t, many(count), modelSum(many(count)), api.OK)
	}
	long := []api.File{{Name: "a", Data: bytes.Repeat([]byte("x"), api.MaxArchive+1)}, file(strings.Repeat("n", 200), "")}
	sums(t, long, modelSum(long), api.OK)
}

func TestP6_5_Errors(t *testing.T) {
	for _, name := range []string{"", ".", "../a", "a//b", " a", "a ", "a:b", "a\nb", "\x7f", "\xff", strings.Repeat("a", 201)} {
		sums(t, named(name), "", api.ErrName)
		sums(t, named("x", "y", name), "", api.ErrName)
		sums(t, named(name, name), "", api.ErrName)
		sums(t, named("x", name, "x"), "", api.ErrName)
		sums(t, named("x", "x", name), "", api.ErrTwice)
		sums(t, named("x", "X", name), "", api.ErrTwice)
	}
	for _, names := range [][]string{{"a", "a"}, {"a", "A"}, {"A", "b", "a"}, {"a/B", "A/b"}, {"z", "y", "x", "Y"}} {
		sums(t, named(names...), "", api.ErrTwice)
	}
	twins := []api.File{file("a", "same"), file("a", "same")}
	sums(t, twins, "", api.ErrTwice)
	sums(t, append(many(3000), file("F00000", "")), "", api.ErrTwice)
	sums(t, append(many(3000), file(" ", "")), "", api.ErrName)
	unlike := named("@", "`", "[", "{", "a", "a/a", "a.a")
	sums(t, unlike, modelSum(unlike), api.OK)
}

func TestP6_5_AsTheModelSums(t *testing.T) {
	chance := rand.New(rand.NewSource(650))
	found := map[api.Errno]int{}
	for range 5000 {
		files := drawLoose(chance, 8)
		want, e := "", modelNames(files)
		if e == api.OK {
			want = modelSum(files)
		}
		found[e]++
		sums(t, files, want, e)
	}
	is(t, fmt.Sprint("whether there were enough: ", found), found[api.OK] > 500 && found[api.ErrName] > 500 && found[api.ErrTwice] > 500, true)
}
