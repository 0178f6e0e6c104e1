package scan_test

import (
	"fmt"
	"strings"
	"testing"

	"mews/api"
	"mews/scan"
)

// Each is a text, and the tags with which it is true; no other one is asked.
func TestP14_2_Operators(t *testing.T) {
	for expr, holds := range map[string]func(a, b, c bool) bool{
		"a":                     func(a, b, c bool) bool { return a },
		"(a)":                   func(a, b, c bool) bool { return a },
		"!a":                    func(a, b, c bool) bool { return !a },
		"!!a":                   func(a, b, c bool) bool { return a },
		"!!!a":                  func(a, b, c bool) bool { return !a },
		"!(!a)":                 func(a, b, c bool) bool { return a },
		"a&&b":                  func(a, b, c bool) bool { return a && b },
		"a||b":                  func(a, b, c bool) bool { return a || b },
		"!a&&b":                 func(a, b, c bool) bool { return !a && b },
		"!a||b":                 func(a, b, c bool) bool { return !a || b },
		"!(a&&b)":               func(a, b, c bool) bool { return !(a && b) },
		"!(a||b)":               func(a, b, c bool) bool { return !(a || b) },
		"a&&!b":                 func(a, b, c bool) bool { return a && !b },
		"a||!b":                 func(a, b, c bool) bool { return a || !b },
		"a&&b&&c":               func(a, b, c bool) bool { return a && b && c },
		"a||b||c":               func(a, b, c bool) bool { return a || b || c },
		"a&&b||c":               func(a, b, c bool) bool { return a && b || c },
		"a||b&&c":               func(a, b, c bool) bool { return a || b && c },
		"(a||b)&&c":             func(a, b, c bool) bool { return (a || b) && c },
		"a&&(b||c)":             func(a, b, c bool) bool { return a && (b || c) },
		"(a&&b)||c":             func(a, b, c bool) bool { return a && b || c },
		"a||(b&&c)":             func(a, b, c bool) bool { return a || b && c },
		"!a||b&&!c":             func(a, b, c bool) bool { return !a || b && !c },
		"!(a||b)&&c":            func(a, b, c bool) bool { return !(a || b) && c },
		"!(a||b&&c)":            func(a, b, c bool) bool { return !(a || b && c) },
		"a&&b||a&&c||b&&c":      func(a, b, c bool) bool { return a && b || a && c || b && c },
		"(a||b)&&(a||c)&&b":     func(a, b, c bool) bool { return (a || b) && (a || c) && b },
		"!a&&!b&&!c||a&&b&&c":   func(a, b, c bool) bool { return a == b && b == c },
		"a&&!b||!a&&b":          func(a, b, c bool) bool { return a != b },
		"!(!(a)||!((b)))&&!!c":  func(a, b, c bool) bool { return a && b && c },
		"a||a":                  func(a, b, c bool) bool { return a },
		"a&&!a":                 func(a, b, c bool) bool { return false },
		"a||!a":                 func(a, b, c bool) bool { return true },
		"((a)||(((b))&&((c))))": func(a, b, c bool) bool { return a || b && c },
	} {
		spaced := strings.NewReplacer("&&", " && ", "||", "\t||\t ", "!", " ! ", "(", " (\t", ")", "  )\t").Replace(expr)
		for bits := range 8 {
			var tags []string
			for i, tag := range []string{"a", "b", "c"} {
				if bits>>i&1 == 1 {
					tags = append(tags, tag)
				}
			}
			want := holds(bits&1 != 0, bits&2 != 0, bits&4 != 0)
			evals(t, expr, tags, want)
			evals(t, spaced, append(tags, "x", "aa", "ab"), want)
			evals(t, "\t "+expr+" \t", append(tags, tags...), want)
		}
	}
}

func TestP14_2_Tags(t *testing.T) {
	for _, tag := range []string{"a", "A", "z", "Z", "0", "9", "1a", "a1", "_", "__", ".", "..", ".a", "a.", "a.b_1", "go1.21", "1.2", "linux", "true", "false", "a_b.c", strings.Repeat("x", api.MaxLine)} {
		evals(t, tag, nil, false)
		evals(t, tag, []string{tag}, true)
		evals(t, tag, []string{tag, tag}, true)
		evals(t, tag, []string{"b", "c", tag, "d"}, true)
		evals(t, tag, []string{"b", tag + "x", "x" + tag, " " + tag, tag + " ", "", "!" + tag, "(" + tag + ")"}, false)
		if len(tag) < api.MaxLine {
			evals(t, "!"+tag, []string{"b", tag}, false)
			evals(t, "!"+tag, []string{"b"}, true)
		}
	}
	evals(t, "a", []string{"A"}, false)
	evals(t, "A", []string{"a"}, false)
	evals(t, "a", []string{""}, false)
	evals(t, "true", nil, false)
	evals(t, "!false", nil, true)
	evals(t, "a&&b", []string{"a&&b"}, false)
	var many []string
	for i := range 3000 {
		many = append(many, fmt.Sprint("t", i))
	}
	evals(t, "t0&&t1500&&t2999", many, true)
	evals(t, "t0&&t3000", many, false)
}

func TestP14_2_EachByte(t *testing.T) {
	for c := range 256 {
		b := string([]byte{byte(c)})
		switch {
		case c < 0x80 && nameByte(c) || c == '.':
			evals(t, b, []string{b}, true)
			evals(t, "a"+b, []string{"a" + b}, true)
			evals(t, b+"a", []string{"a", b}, false)
			noExpression(t, "a "+b, api.ErrSyntax)
		case c == ' ' || c == '\t':
			noExpression(t, b, api.ErrSyntax)
			evals(t, "a"+b, list("a"), true)
			evals(t, b+"a", list("a"), true)
			evals(t, b+"!"+b+"("+b+"a"+b+"&&"+b+"b"+b+")"+b, list("a"), true)
			noExpression(t, "a"+b+"a", api.ErrSyntax)
			noExpression(t, "a|"+b+"|b", api.ErrSyntax)
			noExpression(t, "a&"+b+"&b", api.ErrSyntax)
		default:
			noExpression(t, b, api.ErrSyntax)
			noExpression(t, "a"+b, api.ErrSyntax)
			noExpression(t, "a&&"+b, api.ErrSyntax)
			noExpression(t, "a||b"+b, api.ErrSyntax)
			noExpression(t, "(a)"+b, api.ErrSyntax)
			noExpression(t, "a"+b+"a", api.ErrSyntax)
			if c != '!' && c != '(' {
				noExpression(t, b+"a", api.ErrSyntax)
				noExpression(t, "a||"+b+"b", api.ErrSyntax)
			}
		}
	}
}

func TestP14_2_NoExpressions(t *testing.T) {
	for _, expr := range []string{
		"", " ", "\t", " \t ", "!", "!!", "! ", "(", ")", "()", "( )", "(())", ")(", ")a(", "(a", "a)", "((a)", "(a))", "(a)(b)", "(a)b", "a(b)", "(a) b", "a (b)",
		"a b", "a !b", "a!", "a!b", "!a!", "!(a", "!)", "!()", "!a)", "a ! && b", "!&&a", "!||a", "a&&!", "a||!",
		"&", "|", "&&", "||", "&&a", "||a", "a&&", "a||", "a&", "a|", "&a", "|a", "a&b", "a|b", "a& &b", "a| |b", "a&&&b", "a|||b", "a&&&&b", "a||||b", "a&&||b", "a||&&b", "a&|b", "a|&b", "a&& &&b", "a|| ||b", "a & & b",
		"(a&&)", "(&&a)", "(a||)", "(||a)", "(a)&&", "||(a)", "(a&&b", "a&&b)", "(a||b))", "((a||b)", "a&&(b||c", "a&&b||c)",
		"a,b", "a, b", "a;b", "a-b", "-a", "+a", "a+", "a/b", "//a", "a//", "a /* b */", "a=b", "a==b", "a!=b", "~a", "^a", "a^b", "*", "a*", "#a", "a#", "$a", "@a", "a:b", "a?b:c", "[a]", "{a}", "<a>", "'a'", "\"a\"", "`a`", "\\a", "a\\", "%a",
		"a\n", "\na", "a\n&&b", "a\r", "\ra", "a\r&&b", "a\v", "\fa", "a\x00", "\x00", "\x7f", "é", "aé", "éa", "\xff", "a\x80", "a\u00a0", "\u00a0a", "a\u2003b", "ａ",
	} {
		noExpression(t, expr, api.ErrSyntax)
	}
}

// An expression cut short at any place, or with a byte less, is one or is none
// as its form says.
func TestP14_2_CutShort(t *testing.T) {
	for _, expr := range []string{"a && (b || !c)", "!(a||b)&&c||!!d", "((a))", "! ( a && ! b ) || c.d_1"} {
		for i := range len(expr) {
			for _, cut := range []string{expr[:i], expr[i:], expr[:i] + expr[i+1:], expr[:i] + "&" + expr[i:], expr[:i] + "(" + expr[i:]} {
				want, e := modelEval(cut, list("a c.d_1 d"))
				if e != api.OK {
					noExpression(t, cut, e)
					continue
				}
				evals(t, cut, list("a c.d_1 d"), want)
			}
		}
	}
}

func TestP14_2_AtTheBound(t *testing.T) {
	const most = api.MaxLine
	half := (most - 1) / 2
	deep := func(opened, closed int) string {
		return strings.Repeat("(", opened) + "a" + strings.Repeat(")", closed)
	}
	evals(t, deep(half, half), list("a"), true)
	evals(t, deep(half, half), nil, false)
	evals(t, deep(half, half)+" ", list("a"), true)
	noExpression(t, deep(half, half)+"  ", api.ErrLong)
	noExpression(t, deep(half+1, half), api.ErrSyntax)
	noExpression(t, deep(half, half+1), api.ErrSyntax)
	noExpression(t, deep(half+1, half+1), api.ErrLong)
	evals(t, strings.Repeat("!(", most/3)+"a"+strings.Repeat(")", most/3), list("a"), most/3%2 == 0)
	for _, count := range []int{most - 2, most - 1} {
		evals(t, strings.Repeat("!", count)+"a", list("a"), count%2 == 0)
		evals(t, strings.Repeat("!", count)+"a", nil, count%2 == 1)
	}
	noExpression(t, strings.Repeat("!", most)+"a", api.ErrLong)
	noExpression(t, strings.Repeat("!", most), api.ErrSyntax)
	for _, sign := range []string{"&&", "||"} {
		chain := "a" + strings.Repeat(sign+"a", (most-1)/len(sign+"a"))
		evals(t, chain, list("a"), true)
		evals(t, chain, nil, false)
		evals(t, chain[:len(chain)-1]+"b", list("a"), sign == "||")
		evals(t, "b"+chain[1:], list("a"), sign == "||")
		noExpression(t, chain+sign+"a", api.ErrLong)
	}
	evals(t, strings.Repeat(" ", most-1)+"a", list("a"), true)
	evals(t, "a"+strings.Repeat("\t", most-1), list("a"), true)
	noExpression(t, strings.Repeat(" ", most), api.ErrSyntax)
	for _, with := range []string{" ", "(", "!", "a", "?", "\n", "a&&"} {
		noExpression(t, strings.Repeat(with, most+1), api.ErrLong)
		noExpression(t, strings.Repeat(with, 500*most), api.ErrLong)
	}
	_, e := scan.Eval(strings.Repeat("a", most), nil)
	is(t, "Eval of as many bytes as may be", e, api.OK)
}
