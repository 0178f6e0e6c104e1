package sumdb_test

import (
	"strings"
	"testing"

	"mews/api"
	"mews/sumdb"
	"mews/sumfile"
)

// mods is modules of unlike forms.
func mods() []api.Mod {
	return []api.Mod{
		at("a.b/c", "v1.0.0"), at("a.b", "v0.0.0-0"), at("a.b/C/v2", "v2.0.0-Rc.1"), at("a.b/"+strings.Repeat("X", 96), "v1.0.0-"+strings.Repeat("Y", 53)),
	}
}

func TestP12_2_Record(t *testing.T) {
	for _, m := range mods() {
		l := linesOf(m, "")
		b, e := sumdb.Record(l)
		isError(t, brief(m), e, api.OK)
		is(t, brief(m), string(b), recordOf(l))
		b, e = sumdb.Record([]sumfile.Line{l[1], l[0]})
		isError(t, brief(m)+", turned round", e, api.OK)
		is(t, brief(m)+", turned round", string(b), recordOf(l))
		same := []sumfile.Line{l[0], l[1]}
		same[1].Sum = same[0].Sum
		b, e = sumdb.Record(same)
		isError(t, brief(m)+", with one sum", e, api.OK)
		is(t, brief(m)+", with one sum", string(b), recordOf(same))
	}
}

// wrongRecord is lines that are no record.
type wrongRecord struct {
	what string
	l    []sumfile.Line
	want api.Errno
}

// wrongRecords is lines that are no record, of each kind.
func wrongRecords() []wrongRecord {
	a, b := linesOf(at("a.b/c", "v1.0.0"), ""), linesOf(at("a.b/d", "v1.0.0"), "")
	next := linesOf(at("a.b/c", "v1.0.1"), "")
	tree, manifest := a[0], a[1]
	with := func(l sumfile.Line, change func(l *sumfile.Line)) sumfile.Line {
		change(&l)
		return l
	}
	kind := func(k int) sumfile.Line { return with(tree, func(l *sumfile.Line) { l.Kind = k }) }
	sum := with(tree, func(l *sumfile.Line) { l.Sum = "h1:abc" })
	other := with(tree, func(l *sumfile.Line) { l.Sum = manifest.Sum })
	path := with(tree, func(l *sumfile.Line) { l.Mod.Path = "ab" })
	version := with(tree, func(l *sumfile.Line) { l.Mod.Version = "v1" })
	major := with(tree, func(l *sumfile.Line) { l.Mod.Version = "v2.0.0" })
	long := with(tree, func(l *sumfile.Line) { l.Mod.Path = "a.b/" + strings.Repeat("x", 97) })
	var many []sumfile.Line
	for id := range 1000 {
		many = append(many, linesOf(modOf(id), "")...)
	}
	return []wrongRecord{
		{"no line", nil, api.ErrForm},
		{"an empty list", []sumfile.Line{}, api.ErrForm},
		{"a Tree alone", []sumfile.Line{tree}, api.ErrForm},
		{"a Manifest alone", []sumfile.Line{manifest}, api.ErrForm},
		{"three lines", []sumfile.Line{tree, manifest, b[0]}, api.ErrForm},
		{"four lines", []sumfile.Line{tree, manifest, b[0], b[1]}, api.ErrForm},
		{"two modules", []sumfile.Line{tree, b[1]}, api.ErrForm},
		{"two modules, turned round", []sumfile.Line{b[1], tree}, api.ErrForm},
		{"two versions", []sumfile.Line{tree, next[1]}, api.ErrForm},
		{"two modules' Trees", []sumfile.Line{tree, b[0]}, api.ErrForm},
		{"two modules' Manifests", []sumfile.Line{manifest, b[1]}, api.ErrForm},
		{"two Trees", []sumfile.Line{tree, tree}, api.ErrTwice},
		{"two Trees with two sums", []sumfile.Line{tree, other}, api.ErrTwice},
		{"two Manifests", []sumfile.Line{manifest, manifest}, api.ErrTwice},
		{"three lines, one of them twice", []sumfile.Line{tree, manifest, tree}, api.ErrTwice},
		{"a kind below", []sumfile.Line{kind(-1), manifest}, api.ErrKind},
		{"a kind above", []sumfile.Line{tree, kind(2)}, api.ErrKind},
		{"a wrong kind alone", []sumfile.Line{kind(2)}, api.ErrKind},
		{"no sum", []sumfile.Line{sum, manifest}, api.ErrSum},
		{"no sum, alone", []sumfile.Line{sum}, api.ErrSum},
		{"no sum, of another module", []sumfile.Line{b[1], sum}, api.ErrSum},
		{"no path", []sumfile.Line{path, manifest}, api.ErrPath},
		{"no version", []sumfile.Line{manifest, version}, api.ErrVersion},
		{"no match", []sumfile.Line{major, manifest}, api.ErrMajor},
		{"a long path", []sumfile.Line{tree, manifest, long}, api.ErrLong},
		{"zero values", []sumfile.Line{{}, {}}, api.ErrPath},
		{"the first of two", []sumfile.Line{sum, path}, api.ErrSum},
		{"the first of two, turned round", []sumfile.Line{path, sum}, api.ErrPath},
		{"too long a text", many, api.ErrLong},
	}
}

func TestP12_2_WrongRecords(t *testing.T) {
	for _, x := range wrongRecords() {
		b, e := sumdb.Record(x.l)
		isError(t, x.what, e, x.want)
		is(t, x.what, string(b), "")
	}
}

// parsesRecord fails the test unless ParseRecord answers what the model does.
func parsesRecord(t *testing.T, what, text string) bool {
	t.Helper()
	want, ok := modelRecord(text)
	l, e := sumdb.ParseRecord([]byte(text))
	is(t, "ParseRecord, "+what, tell(l), tell(want))
	if ok {
		isError(t, "ParseRecord, "+what, e, api.OK)
	} else {
		isError(t, "ParseRecord, "+what, e, api.ErrForm)
	}
	return ok
}

func TestP12_2_ParseRecord(t *testing.T) {
	for _, m := range mods() {
		l := linesOf(m, "")
		got, e := sumdb.ParseRecord([]byte(recordOf(l)))
		isError(t, brief(m), e, api.OK)
		is(t, brief(m), tell(got), tell(l))
		is(t, "whether the model takes it, too", parsesRecord(t, brief(m), recordOf(l)), true)
	}
}

func TestP12_2_NoRecords(t *testing.T) {
	good := recordOf(linesOf(at("a.b/c", "v1.0.0"), ""))
	other := recordOf(linesOf(at("a.b/d", "v1.0.0"), ""))
	end := strings.Index(good, "\n") + 1
	tree, manifest := good[:end], good[end:]
	for _, text := range []string{
		"", "\n", "x", tree, manifest, manifest + tree, tree + tree, manifest + manifest, tree + manifest + manifest, tree + tree + manifest,
		good[:len(good)-1], good + "\n", "\n" + good, tree + "\n" + manifest, good + good, good + other, other + good, good + "x", good + "x\n",
		tree + other[end:], other[:end] + manifest, " " + good, strings.Replace(good, " ", "  ", 1), strings.ReplaceAll(good, "\n", "\r\n"),
		strings.Replace(good, "/go.mod", "", 1), strings.Replace(good, "h1:", "h2:", 1), strings.ReplaceAll(good, "v1.0.0", "v2.0.0"),
		strings.ReplaceAll(good, "a.b/c", "ab"), strings.Replace(good, "/c", "/C", 1), strings.ReplaceAll(good, "v1.0.0", "v1.0"),
		strings.Replace(good, "=", "", 1), strings.Replace(good, "=", "==", 1), good + strings.Repeat("x", api.MaxText),
		strings.Repeat(good, 1+api.MaxText/len(good)),
	} {
		is(t, "whether the model takes "+brief(text), parsesRecord(t, brief(text), text), false)
	}
}

// What differs from a record by a byte is another record, or none.
func TestP12_2_RecordsTurned(t *testing.T) {
	text := recordOf(linesOf(at("a.b/Cd", "v1.0.0-a"), ""))
	taken, refused := 0, 0
	for i := range len(text) {
		for _, c := range []byte("\x00\n a0A/=.-\x7f\xff" + string(text[i]^1) + string(text[i]^0x20)) {
			if c == text[i] {
				continue
			}
			if parsesRecord(t, "turned", text[:i]+string([]byte{c})+text[i+1:]) {
				taken++
			} else {
				refused++
			}
		}
		parsesRecord(t, "without a byte", text[:i]+text[i+1:])
		parsesRecord(t, "with one more", text[:i]+"a"+text[i:])
	}
	is(t, "whether both were met", taken > 100 && refused > 100, true)
}

// ParseRecord tells the lines that Record takes, and Record what ParseRecord takes.
func TestP12_2_RecordThereAndBack(t *testing.T) {
	for _, m := range mods() {
		b, e := sumdb.Record(linesOf(m, "x"))
		done(t, e)
		l, e := sumdb.ParseRecord(b)
		done(t, e)
		is(t, brief(m), tell(l), tell(linesOf(m, "x")))
		again, e := sumdb.Record(l)
		done(t, e)
		is(t, brief(m), string(again), string(b))
	}
}
