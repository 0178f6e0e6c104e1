package sumdb_test

import (
	"math"
	"strconv"
	"strings"
	"testing"

	"mews/api"
	"mews/sumdb"
)

func TestP12_2_FormatLookup(t *testing.T) {
	good := recordOf(linesOf(modOf(1), ""))
	for _, record := range []string{good, "", "x", "\n", "a\n\nb"} {
		for _, signed := range []string{"note", "", "\n", "a\n\nb\n", "\x00\xff"} {
			for _, id := range []int{0, 1, 10, 1048575, 1048576, -1, math.MaxInt, math.MinInt} {
				b := sumdb.FormatLookup(id, []byte(record), signed)
				is(t, strconv.Itoa(id), string(b), strconv.Itoa(id)+"\n"+record+"\n"+signed)
			}
		}
	}
	is(t, "of no record", string(sumdb.FormatLookup(0, nil, "")), "0\n\n")
}

// parsesLookup fails the test unless ParseLookup answers what the model does.
func parsesLookup(t *testing.T, what, text string) bool {
	t.Helper()
	want, ok := readModelLookup(text)
	id, record, signed, e := sumdb.ParseLookup([]byte(text))
	if !ok {
		want = modelLookup{}
		isError(t, "ParseLookup, "+what, e, api.ErrReply)
	} else {
		isError(t, "ParseLookup, "+what, e, api.OK)
	}
	is(t, "ParseLookup, the number, "+what, id, want.id)
	is(t, "ParseLookup, the record, "+what, string(record), want.record)
	is(t, "ParseLookup, the note, "+what, signed, want.signed)
	return ok
}

func TestP12_2_ParseLookup(t *testing.T) {
	for _, m := range mods() {
		record := recordOf(linesOf(m, ""))
		for _, id := range []int{0, 1, 9, 10, 1000, api.MaxRecords - 2, api.MaxRecords - 1} {
			for _, signed := range []string{"n", "note", "\n", "\n\n", " ", "\nnote", "note\n\nmore\n\n", "\x00\xff\n", record, strings.Repeat("x", 1<<17)} {
				text := lookupText(strconv.Itoa(id), record, signed)
				gotID, gotRecord, gotSigned, e := sumdb.ParseLookup([]byte(text))
				isError(t, brief(text), e, api.OK)
				is(t, "the number, "+brief(text), gotID, id)
				is(t, "the record, "+brief(text), string(gotRecord), record)
				is(t, "the note, "+brief(text), gotSigned, signed)
				is(t, "there and back, "+brief(text), string(sumdb.FormatLookup(gotID, gotRecord, gotSigned)), text)
			}
		}
	}
}

func TestP12_2_WrongNumbers(t *testing.T) {
	record := recordOf(linesOf(modOf(1), ""))
	for _, number := range []string{
		"", "00", "01", "07", "007", "-0", "-1", "+1", "+0", " 1", "1 ", "1\r", "x", "1x", "0x1", "1_0", "1.0", "1e1", "\x00", "\xff", "٣",
		"1048576", "1048577", "9999999", "10485750", "01048575", "9223372036854775807", "9223372036854775808", "18446744073709551616", "18446744073709551617",
		strings.Repeat("9", 5000), strings.Repeat("0", 5000), strings.Repeat("0", 5000) + "1", "1" + strings.Repeat("0", 100000), "4294967296", "4294967297",
	} {
		is(t, "whether the model takes "+brief(number), parsesLookup(t, brief(number), lookupText(number, record, "note")), false)
	}
	for _, number := range []string{"0", "1", "10", "1048575"} {
		is(t, "whether the model takes "+number, parsesLookup(t, number, lookupText(number, record, "note")), true)
	}
}

func TestP12_2_WrongLookups(t *testing.T) {
	record := recordOf(linesOf(modOf(1), ""))
	end := strings.Index(record, "\n") + 1
	for _, text := range []string{
		"", "\n", "\n\n", "\n\n\n", "7", "7\n", "7\n\n", "7\n\nnote", "7\n\n\nnote", "7\n" + record, "7\n" + record + "\n", "7\n" + record[:len(record)-1],
		"7\n" + record + "note", "7\n" + record + "\r\nnote", "7\n" + record + " \nnote", "7" + record + "\nnote", record + "\nnote", "\n" + record + "\nnote", "7\r\n" + record + "\nnote",
		"7\n\n" + record + "\nnote", "7\n\n\n" + record + "\nnote", "\n7\n" + record + "\nnote", " 7\n" + record + "\nnote",
		"7\n" + record[:end] + "\n" + record[end:] + "\nnote", "7\n" + record[:end] + "\nnote", "7\n" + record[end:] + "\nnote",
		"7\n" + record[end:] + record[:end] + "\nnote", "7\n" + record + record + "\nnote", "7\n" + record + "x\n\nnote", "7\nx\n" + record + "\nnote",
		"7\n7\n" + record + "\nnote", "7\n" + recordOf(linesOf(at("ab", "v1.0.0"), "")) + "\nnote", "7\n" + strings.Replace(record, "h1:", "h1:A", 1) + "\nnote",
		strings.Repeat("7", 1<<20), strings.Repeat("\n", 1<<20), "7\n" + strings.Repeat("x\n", 1<<16) + "\nnote",
	} {
		is(t, "whether the model takes "+brief(text), parsesLookup(t, brief(text), text), false)
	}
}

// What differs from a lookup by a byte is another lookup, or none.
func TestP12_2_LookupsTurned(t *testing.T) {
	b := plain(t, 12)
	text := b.lookupOf(t, 10, 12)
	taken, refused := 0, 0
	for i := range len(text) {
		for _, c := range []byte("\x00\n 019aA=\xff" + string(rune(text[i]&0x7f^1))) {
			if c == text[i] {
				continue
			}
			if parsesLookup(t, "turned", text[:i]+string([]byte{c})+text[i+1:]) {
				taken++
			} else {
				refused++
			}
		}
		parsesLookup(t, "cut", text[:i])
		parsesLookup(t, "without a byte", text[:i]+text[i+1:])
		parsesLookup(t, "with one more", text[:i]+"\n"+text[i:])
	}
	is(t, "whether both were met", taken > 100 && refused > 100, true)
}
