package sumfile_test

import (
	"fmt"
	"math/rand"
	"regexp"
	"slices"
	"strings"
	"testing"

	"mews/api"
	"mews/mod"
	"mews/sumfile"
)

// The forms of the chapter, written a second time: P is a piece.
func form(s string) *regexp.Regexp {
	return regexp.MustCompile(`(?s)\A` + strings.ReplaceAll(s, "P", "([^ ]+)") + `\z`)
}

var (
	lineForm    = form("P P P")
	moduleForm  = form("# P P")
	packageForm = form("[^#].*")
)

// modelLines cuts a text at its newlines; the last piece is a line only if it
// is not empty, and then lacks its newline.
func modelLines(text string) (all []string, lacks bool) {
	all = strings.Split(text, "\n")
	if all[len(all)-1] == "" {
		return all[:len(all)-1], false
	}
	return all, true
}

// bytesAsRunes is the text with each byte as a rune of its own, so that regular
// expressions go by bytes; the forms ask only for ASCII.
func bytesAsRunes(s string) string {
	runes := make([]rune, len(s))
	for i := range len(s) {
		runes[i] = rune(s[i])
	}
	return string(runes)
}

func modelParse(text string) ([]sumfile.Line, int, api.Errno) {
	if len(text) > 65536 {
		return nil, 0, api.ErrLong
	}
	var l []sumfile.Line
	all, lacks := modelLines(text)
	for i, s := range all {
		if !lineForm.MatchString(bytesAsRunes(s)) {
			return nil, i + 1, api.ErrSyntax
		}
		line := sumfile.Line{}
		fields := strings.Split(s, " ")
		line.Mod.Path, line.Mod.Version, line.Sum = fields[0], fields[1], fields[2]
		if strings.HasSuffix(fields[1], "/go.mod") {
			line.Mod.Version, line.Kind = fields[1][:len(fields[1])-7], 1
		}
		if e := modelLine(l, line); e != api.OK {
			return nil, i + 1, e
		}
		l = append(l, line)
	}
	if lacks {
		return nil, len(all), api.ErrSyntax
	}
	return modelSorted(l), 0, api.OK
}

// modelLine is the fault of a line behind others.
func modelLine(ahead []sumfile.Line, line sumfile.Line) api.Errno {
	if line.Kind < 0 || line.Kind > 1 {
		return api.ErrKind
	}
	if e := mod.Check(line.Mod); e != api.OK {
		return e
	}
	if !modelSum(line.Sum) {
		return api.ErrSum
	}
	for _, other := range ahead {
		if other.Mod == line.Mod && other.Kind == line.Kind {
			return api.ErrTwice
		}
	}
	return api.OK
}

func modelParseVendor(text string) ([]sumfile.Vendored, int, api.Errno) {
	if len(text) > 65536 {
		return nil, 0, api.ErrLong
	}
	var l []sumfile.Vendored
	all, lacks := modelLines(text)
	for i, s := range all {
		switch form := bytesAsRunes(s); {
		case moduleForm.MatchString(form):
			fields := strings.Split(s, " ")
			l = append(l, sumfile.Vendored{Mod: api.Mod{Path: fields[1], Version: fields[2]}})
		case s == "## explicit" && i > 0 && moduleForm.MatchString(bytesAsRunes(all[i-1])):
			l[len(l)-1].Explicit = true
		case packageForm.MatchString(form) && len(l) > 0:
			l[len(l)-1].Packages = append(l[len(l)-1].Packages, s)
		default:
			return nil, i + 1, api.ErrSyntax
		}
		// What is ahead was looked at when it came.
		if e := modelVendor(l); e != api.OK {
			return nil, i + 1, e
		}
	}
	if lacks {
		return nil, len(all), api.ErrSyntax
	}
	return modelVendorSorted(l), 0, api.OK
}

// modelVendor is the first fault of a list.
func modelVendor(l []sumfile.Vendored) api.Errno {
	for i, v := range l {
		if e := mod.Check(v.Mod); e != api.OK {
			return e
		}
		for _, other := range l[:i] {
			if other.Mod == v.Mod {
				return api.ErrTwice
			}
		}
		for k, p := range v.Packages {
			if e := mod.CheckImport(p); e != api.OK {
				return e
			}
			if !strings.HasPrefix(p+"/", v.Mod.Path+"/") {
				return api.ErrForm
			}
			if slices.Contains(v.Packages[:k], p) {
				return api.ErrTwice
			}
		}
	}
	return api.OK
}

// inserted puts each element behind those that are not greater.
func inserted[T any](list []T, less func(a, b T) bool) []T {
	var sorted []T
	for _, element := range list {
		at := len(sorted)
		for at > 0 && less(element, sorted[at-1]) {
			at--
		}
		sorted = slices.Insert(sorted, at, element)
	}
	return sorted
}

func modelSorted(l []sumfile.Line) []sumfile.Line {
	return inserted(l, func(a, b sumfile.Line) bool {
		return mod.Less(a.Mod, b.Mod) || a.Mod == b.Mod && a.Kind < b.Kind
	})
}

func modelVendorSorted(l []sumfile.Vendored) []sumfile.Vendored {
	sorted := inserted(l, func(a, b sumfile.Vendored) bool { return mod.Less(a.Mod, b.Mod) })
	for i, v := range sorted {
		sorted[i].Packages = inserted(v.Packages, func(a, b string) bool { return a < b })
	}
	return sorted
}

// modelParses holds Parse and ParseVendor of a text against the model, and
// tells their errors.
func modelParses(t *testing.T, text string) (api.Errno, api.Errno) {
	t.Helper()
	l, line, e := sumfile.Parse(text)
	wantL, wantLine, wantE := modelParse(text)
	if line != wantLine || e != wantE || !slices.Equal(l, wantL) {
		t.Fatalf("Parse(%q):\n%v, %d, %d, not\n%v, %d, %d", text, l, line, e, wantL, wantLine, wantE)
	}
	v, line, vendorE := sumfile.ParseVendor(text)
	wantV, wantLine, wantE := modelParseVendor(text)
	if line != wantLine || vendorE != wantE || !sameVendor(v, wantV) {
		t.Fatalf("ParseVendor(%q):\n%v, %d, %d, not\n%v, %d, %d", text, v, line, vendorE, wantV, wantLine, wantE)
	}
	return e, vendorE
}

func TestModelOfDrawnTexts(t *testing.T) {
	chance := rand.New(rand.NewSource(52))
	found, foundVendor := map[api.Errno]int{}, map[api.Errno]int{}
	for range 6000 {
		e, _ := modelParses(t, spoiltText(chance, writtenLock(drawLock(chance))))
		found[e]++
		_, e = modelParses(t, spoiltText(chance, writtenVendor(drawVendor(chance))))
		foundVendor[e]++
	}
	for _, e := range []api.Errno{api.OK, api.ErrSyntax, api.ErrPath, api.ErrMajor, api.ErrVersion, api.ErrTwice, api.ErrSum} {
		is(t, fmt.Sprintf("whether error %d was drawn of locks", e), found[e] > 0, true)
	}
	for _, e := range []api.Errno{api.OK, api.ErrSyntax, api.ErrPath, api.ErrMajor, api.ErrVersion, api.ErrTwice, api.ErrForm, api.ErrLong} {
		is(t, fmt.Sprintf("whether error %d was drawn of vendor lists", e), foundVendor[e] > 0, true)
	}
}

func TestModelOfDrawnTokens(t *testing.T) {
	chance := rand.New(rand.NewSource(54))
	tokens := []string{"#", "# ", "## explicit", "explicit", "x.y", "a.b", "v1.0.0", "v1.1.0", "/go.mod", sumA, sumB, " ", " ", " ", "\n", "\n", "\n", "/", "/c", "\r", "\t", "\xff"}
	for range 60000 {
		text := draw(chance, "", "", "# a.b v1.0.0\n", "a.b v1.0.0 "+sumA+"\n")
		for range chance.Intn(12) {
			text += draw(chance, tokens...)
		}
		modelParses(t, text)
	}
}

// Each byte in the place of each, and between each two, of a small text.
func TestModelOfEachByte(t *testing.T) {
	for _, text := range []string{lines("a.b v1.0.0/go.mod "+sumA, "a.b v1.0.0 "+sumB), lines("# a.b v1.0.0", "## explicit", "a.b/c", "# x.y v1.1.0", "x.y")} {
		for i := range len(text) {
			for c := range 256 {
				one := string([]byte{byte(c)})
				modelParses(t, text[:i]+one+text[i:])
				modelParses(t, text[:i]+one+text[i+1:])
			}
			modelParses(t, text[:i]+text[i+1:])
			modelParses(t, text[:i])
			modelParses(t, text[i:])
		}
	}
}

// spoiltLock is the lines with something done to one that may be a fault.
func spoiltLock(chance *rand.Rand, l []sumfile.Line) []sumfile.Line {
	for range chance.Intn(3) {
		at := chance.Intn(len(l) + 1)
		line := draw(chance, append(slices.Clone(l), drawLine(chance))...)
		switch chance.Intn(5) {
		case 0:
			line.Kind = draw(chance, 2, -1, 1<<40)
		case 1:
			line.Sum = draw(chance, "", "h1:x", sumA+"=")
		case 2:
			line.Mod.Path = draw(chance, "", "xy", overPath, "x.y/v1")
		case 3:
			line.Mod.Version = draw(chance, "", "v1", "v3.0.0")
		}
		l = slices.Insert(l, at, line)
	}
	return l
}

func TestModelOfFormat(t *testing.T) {
	chance := rand.New(rand.NewSource(53))
	found := map[api.Errno]int{}
	for range 6000 {
		l := spoiltLock(chance, drawLock(chance))
		wantE := api.OK
		for i := 0; i < len(l) && wantE == api.OK; i++ {
			wantE = modelLine(l[:i], l[i])
		}
		want := ""
		if wantE == api.OK {
			want = writtenLock(modelSorted(l))
		}
		formats(t, l, want, wantE)
		found[wantE]++
	}
	for _, e := range []api.Errno{api.OK, api.ErrKind, api.ErrPath, api.ErrMajor, api.ErrVersion, api.ErrTwice, api.ErrSum, api.ErrLong} {
		is(t, fmt.Sprintf("whether error %d was drawn", e), found[e] > 0, true)
	}
}

// spoiltVendored is the list with something put in that may be a fault.
func spoiltVendored(chance *rand.Rand, l []sumfile.Vendored) []sumfile.Vendored {
	for range chance.Intn(3) {
		v := draw(chance, append(slices.Clone(l), vendored("n.n v1.0.0"))...)
		switch chance.Intn(4) {
		case 0:
			v.Mod = draw(chance, module("xy v1.0.0"), module("x.y v1"), module("n.n v1.0.0"), module("x.y v2.0.0"))
		case 1:
			v.Mod = module("n.m v1.0.0")
			v.Packages = draw(chance, []string{"n.m", "n.m/a", "n.m"}, []string{"n.mm", ""}, []string{"n.m/"}, []string{overPath}, []string{"n.m/b", "n.m/a"})
		case 2:
			v.Mod = module("n.o v1.0.0")
		}
		l = slices.Insert(l, chance.Intn(len(l)+1), v)
	}
	return l
}

func TestModelOfFormatVendor(t *testing.T) {
	chance := rand.New(rand.NewSource(56))
	found := map[api.Errno]int{}
	for range 6000 {
		l := spoiltVendored(chance, drawVendor(chance))
		wantE := modelVendor(l)
		want := ""
		if wantE == api.OK {
			want = writtenVendor(modelVendorSorted(l))
		}
		formatsVendor(t, l, want, wantE)
		found[wantE]++
	}
	for _, e := range []api.Errno{api.OK, api.ErrPath, api.ErrMajor, api.ErrVersion, api.ErrTwice, api.ErrForm, api.ErrLong} {
		is(t, fmt.Sprintf("whether error %d was drawn", e), found[e] > 0, true)
	}
}
