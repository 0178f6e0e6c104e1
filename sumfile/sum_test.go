package sumfile_test

import (
	"encoding/base64"
	"fmt"
	"math/rand"
	"strings"
	"testing"

	"mews/sumfile"
)

// modelSum asks the library's base64 in place of the program's.
func modelSum(s string) bool {
	if !strings.HasPrefix(s, "h1:") {
		return false
	}
	data, err := base64.StdEncoding.Strict().DecodeString(s[3:])
	return err == nil && len(data) == 32 && base64.StdEncoding.EncodeToString(data) == s[3:]
}

func isSum(t *testing.T, s string, want bool) {
	t.Helper()
	is(t, fmt.Sprintf("ValidSum(%q)", s), sumfile.ValidSum(s), want)
	is(t, fmt.Sprintf("the model of ValidSum(%q)", s), modelSum(s), want)
}

func TestP5_1_Sums(t *testing.T) {
	isSum(t, sumA, true)
	isSum(t, sumB, true)
	isSum(t, "h1:"+strings.Repeat("A", 43)+"=", true)
	isSum(t, "h1:"+strings.Repeat("/", 42)+"8=", true)
	isSum(t, "h1:"+strings.Repeat("+", 42)+"0=", true)
	for _, s := range []string{
		"", "h", "h1", "h1:", "h1:=", "h1:abc", sumA[:len(sumA)-1], sumA + "=", sumA[:len(sumA)-1] + "A",
		sumA[1:], sumA[2:], sumA[3:], "h2" + sumA[2:], "H1" + sumA[2:], "h1;" + sumA[3:], "h1" + sumA[3:], "h1:h1:" + sumA[3:], "h1::" + sumA[3:],
		" " + sumA, sumA + " ", sumA + "\n", sumA + "\r", "h1: " + sumA[3:], sumA + sumA, "\n" + sumA, sumA[:20] + "\n" + sumA[20:], sumA[:20] + "\n" + sumA[21:],
		strings.ToUpper(sumA), strings.ReplaceAll(sumA, "+", "-"), strings.ReplaceAll(sumA, "/", "_"), strings.Repeat("=", 47), "h1:" + strings.Repeat("=", 44),
		"h1:" + strings.Repeat("A", 42) + "==", "h1:" + strings.Repeat("A", 44), "h1:=" + strings.Repeat("A", 43), "h1:" + strings.Repeat("A", 42) + "=A",
	} {
		isSum(t, s, false)
	}
}

func TestP5_1_Lengths(t *testing.T) {
	for count := range 100 {
		coded := strings.Repeat("A", count)
		isSum(t, "h1:"+coded, false)
		isSum(t, "h1:"+coded+"=", count == 43)
		isSum(t, "h1:"+coded+"==", false)
		isSum(t, coded, false)
		isSum(t, "h1:"+base64.StdEncoding.EncodeToString(make([]byte, count)), count == 32)
		isSum(t, "h1:"+base64.RawStdEncoding.EncodeToString(make([]byte, count)), false)
	}
}

func TestP5_1_EachByteAtEachPlace(t *testing.T) {
	for place := range len(sumA) {
		for c := range 256 {
			s := sumA[:place] + string([]byte{byte(c)}) + sumA[place+1:]
			is(t, fmt.Sprintf("ValidSum(%q)", s), sumfile.ValidSum(s), modelSum(s))
		}
	}
}

// The last sign says four bits; 16 of the 64 signs have nothing set behind them.
func TestP5_1_SpareBits(t *testing.T) {
	taken := ""
	for c := range 256 {
		if sumfile.ValidSum(sumA[:45] + string([]byte{byte(c)}) + "=") {
			taken += string([]byte{byte(c)})
		}
	}
	is(t, "the last signs", taken, "048AEIMQUYcgkosw")
}

func TestP5_1_AllThatAreDrawn(t *testing.T) {
	chance := rand.New(rand.NewSource(51))
	data := make([]byte, 32)
	for range 3000 {
		chance.Read(data)
		s := "h1:" + base64.StdEncoding.EncodeToString(data)
		isSum(t, s, true)
		isSum(t, s[:len(s)-1], false)
	}
}
