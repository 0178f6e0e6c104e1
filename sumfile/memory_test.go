package sumfile_test

import (
	"slices"
	"testing"

	"mews/api"
	"mews/sumfile"
)

// The marks that lie behind lists, and that are written into answers.
var (
	roomLine, spoiltLine     = tree("room v1.0.0", "room"), tree("spoilt v1.0.0", "spoilt")
	roomVendor, spoiltVendor = vendored("room v1.0.0", "room"), vendored("spoilt v1.0.0", "spoilt")
)

// roomy is the list with spare room behind it, filled with a mark.
func roomy[T any](list []T, mark T) []T {
	whole := append(slices.Clone(list), mark, mark, mark)
	return whole[:len(list)]
}

// whole is the list with what lies behind it.
func whole[T any](list []T) []T { return list[:cap(list)] }

// spoil writes into all the memory of a list.
func spoil[T any](list []T, mark T) {
	for i := range whole(list) {
		whole(list)[i] = mark
	}
}

// copiedVendor is the list in memory of its own, with what lies behind it and
// its packages.
func copiedVendor(l []sumfile.Vendored) []sumfile.Vendored {
	all := slices.Clone(whole(l))
	for i := range all {
		all[i].Packages = slices.Clone(whole(all[i].Packages))
	}
	return all
}

// roomyVendor is the list with room behind it and behind its packages.
func roomyVendor(l []sumfile.Vendored) []sumfile.Vendored {
	l = roomy(l, roomVendor)
	for i := range l {
		l[i].Packages = roomy(l[i].Packages, "room")
	}
	return l
}

func locks() [][]sumfile.Line {
	return [][]sumfile.Line{
		nil,
		{tree("x.y v1.0.0", sumA)},
		{tree("a.b v1.0.0", sumA), manifest("a.b v1.0.0", sumA), tree("x.y v1.0.0", sumB)},
		{tree("x.y v1.0.0", sumB), manifest("a.b v1.0.0", sumA), tree("a.b v1.0.0", sumA)},
		{tree("x.y v1.0.0", sumB), manifest("a.b v1.0.0", sumA), tree("x.y v1.0.0", sumB)},
		{tree("x.y v1.0.0", sumB), manifest("a.b v1.0.0", sumA), tree("x.y v1.0.0", sumA)},
		{tree("x y", "z"), {Kind: 7}, tree("a.b v1.0.0", sumA), {}},
	}
}

func TestP5_6_LocksHandedIn(t *testing.T) {
	mods := roomy(each(module, "x.y v1.0.0", "a.b v1.0.0", "x y"), module("room v1.0.0"))
	modsBefore := slices.Clone(whole(mods))
	for _, given := range locks() {
		l, other := roomy(given, roomLine), roomy(locks()[2], roomLine)
		before, otherBefore := slices.Clone(whole(l)), slices.Clone(whole(other))
		text, _ := sumfile.Format(l)
		same, _ := sumfile.Format(given)
		is(t, "Format, whatever lies behind", text, same)
		for _, pair := range [][2][]sumfile.Line{{l, other}, {other, l}, {l, l}, {l, nil}, {nil, l}} {
			merged, _ := sumfile.Merge(pair[0], pair[1])
			is(t, "whether Merge reads what lies behind", slices.Contains(whole(merged), roomLine), false)
			spoil(merged, spoiltLine)
		}
		kept := sumfile.Keep(l, mods)
		is(t, "whether Keep reads what lies behind", slices.Contains(whole(kept), roomLine), false)
		spoil(kept, spoiltLine)
		spoil(sumfile.Keep(l, []api.Mod{module("x.y v1.0.0")}), spoiltLine)
		is(t, "what Keep keeps of what lies behind", len(sumfile.Keep([]sumfile.Line{roomLine}, mods)), 0)
		_, found := sumfile.Find(l, roomLine.Mod, roomLine.Kind)
		is(t, "whether Find finds what lies behind", found, false)
		isList(t, "what was handed in", whole(l), before)
		isList(t, "what was handed in besides", whole(other), otherBefore)
		isList(t, "the modules that were handed in", whole(mods), modsBefore)
	}
}

func TestP5_6_LocksHandedOut(t *testing.T) {
	for _, given := range locks() {
		text := writtenLock(slices.DeleteFunc(slices.Clone(given), func(l sumfile.Line) bool { return l.Kind > 1 }))
		calls := map[string]func() []sumfile.Line{
			"Parse":            func() []sumfile.Line { l, _, _ := sumfile.Parse(text); return l },
			"Merge":            func() []sumfile.Line { l, _ := sumfile.Merge(given, given); return l },
			"Merge with none":  func() []sumfile.Line { l, _ := sumfile.Merge(given, nil); return l },
			"Merge of none":    func() []sumfile.Line { l, _ := sumfile.Merge(nil, nil); return l },
			"Keep":             func() []sumfile.Line { return sumfile.Keep(given, each(module, "x.y v1.0.0", "a.b v1.0.0", "x y")) },
			"Keep of no lines": func() []sumfile.Line { return sumfile.Keep(nil, each(module, "x.y v1.0.0")) },
		}
		for name, call := range calls {
			first := call()
			want := slices.Clone(first)
			second := call()
			wantWhole := slices.Clone(whole(second))
			spoil(first, spoiltLine)
			isList(t, name+", another answer", whole(second), wantWhole)
			isList(t, name+", asked again", call(), want)
		}
	}
}

func vendorLists() [][]sumfile.Vendored {
	return [][]sumfile.Vendored{
		nil,
		{vendored("x.y v1.0.0")},
		{vendored("a.b v1.0.0 explicit", "a.b", "a.b/c"), vendored("x.y v1.0.0", "x.y")},
		{vendored("x.y v1.0.0", "x.y/c", "x.y/b", "x.y/a"), vendored("a.b v1.0.0", "a.b/c", "a.b"), vendored("a.a v1.0.0 explicit")},
		{vendored("x.y v1.0.0", "x.y/c", "x.y/b", "x.y/c")},
		{vendored("x.y v1.0.0", "x.y/c", "x.y/b"), vendored("x.y v1.0.0")},
	}
}

func TestP5_6_VendorListsHandedIn(t *testing.T) {
	for _, given := range vendorLists() {
		l := roomyVendor(given)
		before := copiedVendor(l)
		text, e := sumfile.FormatVendor(l)
		same, sameE := sumfile.FormatVendor(given)
		is(t, "FormatVendor, whatever lies behind", text, same)
		is(t, "its error", e, sameE)
		isVendor(t, "what was handed in", copiedVendor(l), before)
	}
}

func TestP5_6_VendorListsHandedOut(t *testing.T) {
	for _, given := range vendorLists() {
		text := writtenVendor(given)
		first, _, _ := sumfile.ParseVendor(text)
		second, _, _ := sumfile.ParseVendor(text)
		want := copiedVendor(second)
		// Nothing that is written into one list, or behind it, shows in another.
		for i := range first {
			others := slices.Delete(copiedVendor(first)[:len(first)], i, i+1)
			spoil(first[i].Packages, "spoilt")
			_ = append(first[i].Packages, "spoilt", "spoilt")
			isVendor(t, "the others of the same answer", slices.Delete(copiedVendor(first)[:len(first)], i, i+1), others)
		}
		spoil(first, spoiltVendor)
		isVendor(t, "another answer", copiedVendor(second), want)
		again, _, _ := sumfile.ParseVendor(text)
		isVendor(t, "asked again", again, second)
	}
}

func TestP5_6_Patterns(t *testing.T) {
	for _, s := range []string{"", "a", "a,b,c", "a,b,c,d,e", "a,,b"} {
		first, _ := sumfile.Patterns(s)
		want := slices.Clone(first)
		second, _ := sumfile.Patterns(s)
		wantWhole := slices.Clone(whole(second))
		spoil(first, "spoilt")
		isList(t, "another answer", whole(second), wantWhole)
		third, _ := sumfile.Patterns(s)
		isList(t, "asked again", third, want)
	}
	patterns := roomy([]string{"b", "a/*"}, "room")
	before := slices.Clone(whole(patterns))
	is(t, "Match", sumfile.Match(patterns, "a/b"), true)
	is(t, "Match of what lies behind", sumfile.Match(patterns, "room"), false)
	isList(t, "what was handed in", whole(patterns), before)
}
