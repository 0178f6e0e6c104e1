package mod_test

import (
	"fmt"
	"math/big"
	"math/rand"
	"regexp"
	"slices"
	"strconv"
	"strings"
	"testing"

	"mews/api"
	"mews/mod"
)

// The forms of the chapter, written a second time.
const (
	numberForm     = `(0|[1-9][0-9]{0,8})`
	identifierForm = `(?:0|[1-9][0-9]*|[0-9]*[A-Za-z-][0-9A-Za-z-]*)`
	elementForm    = `[%[1]s](?:[.%[1]s]*[%[1]s])?`
)

var (
	versionForm = regexp.MustCompile(`\Av` + numberForm + `\.` + numberForm + `\.` + numberForm + `(?:-(` + identifierForm + `(?:\.` + identifierForm + `)*))?\z`)
	importForm  = elements(fmt.Sprintf(elementForm, `0-9A-Za-z_~+-`))
	pathForm    = elements(fmt.Sprintf(elementForm, `0-9A-Za-z_~-`))
	hostForm    = regexp.MustCompile(`\A[0-9a-z][0-9a-z-]*(?:\.+[0-9a-z-]+)+(?:/|\z)`)
	digitsForm  = regexp.MustCompile(`/v[0-9]+\z`)
	majorForm   = regexp.MustCompile(`(?s)\A(.*)/v([2-9]|[1-9][0-9]{1,8})\z`)
)

func elements(element string) *regexp.Regexp {
	return regexp.MustCompile(`\A` + element + `(?:/` + element + `)*\z`)
}

func modelParts(v string) parts {
	m := versionForm.FindStringSubmatch(v)
	if m == nil || len(v) > api.MaxVersion {
		return parts{}
	}
	n := [3]int{}
	for i := range n {
		n[i], _ = strconv.Atoi(m[i+1])
	}
	return parts{n[0], n[1], n[2], m[4], true}
}

// modelCompare asks the parts one by one.
func modelCompare(a, b string) int {
	pa, pb := modelParts(a), modelParts(b)
	if !pa.ok || !pb.ok {
		if pa.ok == pb.ok {
			return strings.Compare(a, b)
		}
		return sign(pa.ok, pb.ok)
	}
	for _, pair := range [][2]int{{pa.major, pb.major}, {pa.minor, pb.minor}, {pa.patch, pb.patch}} {
		if pair[0] != pair[1] {
			return sign(pair[0] > pair[1], pair[0] < pair[1])
		}
	}
	if pa.pre == "" || pb.pre == "" {
		return sign(pa.pre == "", pb.pre == "")
	}
	la, lb := strings.Split(pa.pre, "."), strings.Split(pb.pre, ".")
	for i := range min(len(la), len(lb)) {
		if order := modelIdentifiers(la[i], lb[i]); order != 0 {
			return order
		}
	}
	return sign(len(la) > len(lb), len(la) < len(lb))
}

func modelIdentifiers(a, b string) int {
	na, okA := new(big.Int).SetString(strings.ReplaceAll(a, "-", "x"), 10)
	nb, okB := new(big.Int).SetString(strings.ReplaceAll(b, "-", "x"), 10)
	if okA && okB {
		return na.Cmp(nb)
	}
	if okA || okB {
		return sign(okB, okA)
	}
	return strings.Compare(a, b)
}

func sign(greater, less bool) int {
	switch {
	case greater == less:
		return 0
	case greater:
		return 1
	}
	return -1
}

func modelCheckPath(p string) api.Errno {
	switch {
	case len(p) > api.MaxPath:
		return api.ErrLong
	case !pathForm.MatchString(p) || !hostForm.MatchString(p):
		return api.ErrPath
	case digitsForm.MatchString(p) && !majorForm.MatchString(p):
		return api.ErrMajor
	}
	return api.OK
}

func modelCheckImport(p string) api.Errno {
	switch {
	case len(p) > api.MaxPath:
		return api.ErrLong
	case !importForm.MatchString(p):
		return api.ErrPath
	}
	return api.OK
}

func modelSplitMajor(p string) front {
	m := majorForm.FindStringSubmatch(p)
	if m == nil {
		return front{p, 0}
	}
	major, _ := strconv.Atoi(m[2])
	return front{m[1], major}
}

// randomText is up to so many of the bytes.
func randomText(chance *rand.Rand, bytes string, most int) string {
	text := make([]byte, chance.Intn(most+1))
	for i := range text {
		text[i] = bytes[chance.Intn(len(bytes))]
	}
	return string(text)
}

// randomJoin is up to so many of the pieces.
func randomJoin(chance *rand.Rand, pieces []string, most int) string {
	var text strings.Builder
	for range chance.Intn(most + 1) {
		text.WriteString(pieces[chance.Intn(len(pieces))])
	}
	return text.String()
}

// randomVersions is texts of which many are versions.
func randomVersions(count int) []string {
	chance := rand.New(rand.NewSource(int64(count)))
	fronts := []string{"v0.0.0", "v1.0.0", "v1.2.3", "v1.2.10", "v1.10.3", "v2.0.0", "v999999999.0.1", "v1.2", "v1.02.3", "x", "v"}
	pieces := []string{".", ".", ".", "-", "0", "0", "1", "9", "10", "a", "B", "rc", "9223372036854775808", "_", end}
	var list []string
	for range count {
		v := fronts[chance.Intn(len(fronts))]
		if chance.Intn(6) > 0 {
			v += "-" + randomJoin(chance, pieces, 6)
		}
		list = append(list, v)
	}
	return list
}

// randomPseudos is texts of which many are pseudo-versions, or nearly.
func randomPseudos(count int) []string {
	chance := rand.New(rand.NewSource(int64(count)))
	fronts := []string{"v0.0.0", "v1.0.0", "v1.0.1", "v1.2.0", "v2.0.10", "v999999999.0.999999999", "v1.0"}
	middles := []string{"", "0.", "0.", ".", "a.", "rc.0.", "00.", "-", "1.", end + "."}
	ends := []string{end, end, end, "00000101000000-000000000000", "20201301000000-" + rev, stamp, end + ".0", "20200102030405-abcdefabcde"}
	var list []string
	for range count {
		list = append(list, fronts[chance.Intn(len(fronts))]+"-"+randomJoin(chance, middles, 3)+ends[chance.Intn(len(ends))])
	}
	return list
}

// basesFor is each text that a version could have as its base: what it begins
// with, and releases near it.
func basesFor(v string) []string {
	bases := []string{""}
	for i := range v {
		bases = append(bases, v[:i])
	}
	p := partsOf(v)
	for _, patch := range []int{p.patch - 1, p.patch, p.patch + 1} {
		bases = append(bases, fmt.Sprintf("v%d.%d.%d", p.major, p.minor, patch))
	}
	return bases
}

func TestModelOfVersions(t *testing.T) {
	list := randomVersions(3000)
	for i, v := range list {
		is(t, fmt.Sprintf("P3.1: Parts(%q)", v), partsOf(v), modelParts(v))
		is(t, fmt.Sprintf("P3.1: ValidVersion(%q)", v), mod.ValidVersion(v), modelParts(v).ok)
		for _, b := range list[:40] {
			is(t, fmt.Sprintf("P3.2: Compare(%q, %q)", v, b), mod.Compare(v, b), modelCompare(v, b))
		}
		if i%100 == 0 {
			want := slices.Clone(list[:i])
			slices.SortStableFunc(want, modelCompare)
			is(t, "P3.2: Sort", slices.Equal(mod.Sort(list[:i]), want), true)
		}
	}
}

func TestModelOfAnyBytes(t *testing.T) {
	chance := rand.New(rand.NewSource(5))
	for range 30000 {
		v := "v1.2" + randomText(chance, "v0129.-aZ_+\x00\xff", 9)
		is(t, fmt.Sprintf("P3.1: Parts(%q)", v), partsOf(v), modelParts(v))
		is(t, fmt.Sprintf("P3.3: SplitPseudo(%q)", v), splitPseudo(v), origin{})
	}
}

func TestModelOfPaths(t *testing.T) {
	chance := rand.New(rand.NewSource(7))
	pieces := []string{"/", "/", "/", ".", ".", "a", "b", "a.b", "a.b/", "C", "_", "~", "-", "+", "v", "/v", "/v", "0", "1", "2", "10", "123456789", strings.Repeat("c", 30), "é", "\x00"}
	for range 100000 {
		p := randomJoin(chance, pieces, 8)
		is(t, fmt.Sprintf("P3.4: CheckPath(%q)", p), mod.CheckPath(p), modelCheckPath(p))
		is(t, fmt.Sprintf("P3.5: CheckImport(%q)", p), mod.CheckImport(p), modelCheckImport(p))
		is(t, fmt.Sprintf("P3.6: SplitMajor(%q)", p), splitMajor(p), modelSplitMajor(p))
	}
}
