package journal_test

import (
	"math/rand"
	"strings"

	"mews/journal"
)

// draw is one of them by chance.
func draw[T any](chance *rand.Rand, all ...T) T { return all[chance.Intn(len(all))] }

// drawBytes is so many bytes.
func drawBytes(chance *rand.Rand, count int) string {
	b := make([]byte, count)
	chance.Read(b)
	return string(b)
}

// someNames is a few names: some of them look like the journal's file.
func someNames() []string {
	return []string{"a", "b", "c", "a/x", "a/y", "d/e/f", "tx", "tx/a", "tx/journa", "tx/journals", "tx/journal/x", "journal", "xtx/journal"}
}

// drawData is data: now and then those of a journal.
func drawData(chance *rand.Rand) string {
	return draw(chance, "", "x", "old", "new data", modelBytes(), modelBytes(write("a", "!")), drawBytes(chance, chance.Intn(30)))
}

// drawChanges is up to so many changes, of names that no two have.
func drawChanges(chance *rand.Rand, most int) []journal.Change {
	var l []journal.Change
	names := someNames()
	chance.Shuffle(len(names), func(i, k int) { names[i], names[k] = names[k], names[i] })
	for _, name := range names[:chance.Intn(min(most, len(names))+1)] {
		l = append(l, journal.Change{Name: name, Data: []byte(drawData(chance)), Drop: chance.Intn(3) == 0})
	}
	return l
}

// drawLoose is changes of names that may be none, or the same.
func drawLoose(chance *rand.Rand) []journal.Change {
	l := drawChanges(chance, 6)
	for range chance.Intn(3) {
		name := draw(chance, draw(chance, someNames()...), draw(chance, noNames()...), strings.Repeat("n", 239+chance.Intn(3)))
		at := chance.Intn(len(l) + 1)
		l = append(l[:at:at], append(changes(journal.Change{Name: name, Drop: chance.Intn(2) == 0}), l[at:]...)...)
	}
	return l
}

// spoilt is bytes with one or some more turned, taken out, put in or told twice.
func spoilt(chance *rand.Rand, s string) string {
	from := chance.Intn(len(s) + 1)
	to := min(len(s), from+chance.Intn(12))
	switch chance.Intn(4) {
	case 0:
		return s[:from] + s[to:]
	case 1:
		return s[:to] + s[from:]
	case 2:
		return s[:from] + drawBytes(chance, to-from) + s[to:]
	default:
		return s[:from] + draw(chance, "\x00", "\x01", "\x02", "\x03", modelCommit(0), modelCommit(1)) + s[from:]
	}
}
