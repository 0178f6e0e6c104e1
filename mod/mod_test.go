package mod_test

import (
	"fmt"
	"math/rand"
	"slices"
	"testing"

	"mews/api"
	"mews/mod"
)

// risingMods is modules, each of them ahead of those behind it.
var risingMods = mods(
	" ", " v1.0.0", "A.b v9.0.0", "a.B v9.0.0", "a.b ", "a.b x", "a.b v1.0.0-a", "a.b v1.0.0", "a.b v1.9.0", "a.b v1.10.0", "a.b v2.0.0-0", "a.b v2.0.0",
	"a.b-c v0.0.0", "a.b.c v0.0.0", "a.b/c v0.0.0", "a.b/v10 v10.0.0", "a.b/v9 v9.0.0", "a.bc v0.0.0", "b x", "b v1.0.0", "\xff v0.0.0",
)

func TestP3_8_LessGoesByPathThenVersion(t *testing.T) {
	for i, a := range risingMods {
		for k, b := range risingMods {
			is(t, fmt.Sprintf("Less(%q, %q)", a, b), mod.Less(a, b), i < k)
		}
	}
}

func TestP3_8_SortModsRises(t *testing.T) {
	chance := rand.New(rand.NewSource(8))
	for range 50 {
		mixed := slices.Clone(risingMods)
		chance.Shuffle(len(mixed), func(i, k int) { mixed[i], mixed[k] = mixed[k], mixed[i] })
		given := slices.Clone(mixed)
		is(t, "SortMods", fmt.Sprintf("%q", mod.SortMods(given)), fmt.Sprintf("%q", risingMods))
		is(t, "what was given", slices.Equal(given, mixed), true)
	}
	is(t, "SortMods of none", len(mod.SortMods(nil))+len(mod.SortMods([]api.Mod{})), 0)
	same := mods("b v1.0.0", "a v1.0.0", "b v1.0.0", "a v0.0.0", "a v1.0.0")
	is(t, "SortMods of the same ones", fmt.Sprint(mod.SortMods(same)), "[{a v0.0.0} {a v1.0.0} {a v1.0.0} {b v1.0.0} {b v1.0.0}]")
}

func TestP3_9_SortedListsAreNewMemory(t *testing.T) {
	newMemory(t, mod.Sort, []string{"b", "v1.0.0", "a", "b"}, "w", "u")
	newMemory(t, mod.Sort, []string{"a", "b"}, "w", "u")
	newMemory(t, mod.Sort, []string{"a"}, "w", "u")
	newMemory(t, mod.Sort, []string{}, "w", "u")
	newMemory(t, mod.SortMods, mods("b v1.0.0", "a v1.0.0", "b v0.0.0"), api.Mod{Path: "w"}, api.Mod{Path: "u"})
	newMemory(t, mod.SortMods, mods("a v1.0.0", "b v1.0.0"), api.Mod{Path: "w"}, api.Mod{Path: "u"})
	newMemory(t, mod.SortMods, mods("a v1.0.0"), api.Mod{Path: "w"}, api.Mod{Path: "u"})
	newMemory(t, mod.SortMods, nil, api.Mod{Path: "w"}, api.Mod{Path: "u"})
}

// newMemory sorts a list that has spare room, twice, and writes into all the
// room of what is answered.
func newMemory[T comparable](t *testing.T, sorted func([]T) []T, l []T, room, mark T) {
	t.Helper()
	whole := append(slices.Clone(l), room, room, room)
	before := slices.Clone(whole)
	first := sorted(whole[:len(l)])
	second := sorted(whole[:len(l)])
	is(t, "the list handed in, with its room", slices.Equal(whole, before), true)
	is(t, "the same answer again", slices.Equal(first, second), true)
	kept := slices.Clone(second)
	first = first[:cap(first)]
	for i := range first {
		first[i] = mark
	}
	is(t, "the list handed in, when the answer is written", slices.Equal(whole, before), true)
	is(t, "the other answer", slices.Equal(second, kept), true)
	is(t, "the other answer's room", slices.Contains(second[:cap(second)], mark), false)
	for i := range whole {
		whole[i] = mark
	}
	is(t, "the answer, when the list handed in is written", slices.Equal(second, kept), true)
	is(t, "nothing is kept", slices.Equal(sorted(before[:len(l)]), kept), true)
}
