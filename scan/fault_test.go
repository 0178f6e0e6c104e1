package scan_test

import (
	"strings"
	"testing"

	"mews/api"
)

// Each is a source up to the token that cannot be, which is in its last line.
func TestP14_1_TokensThatCannotBe(t *testing.T) {
	for _, src := range []string{
		"", "\n", "\n\n", ";", " ", "\n \t", "//", "// package a", "//\n", "/**/", "/*\n*/", "\n;// x\n/* y */", "\r\r",
		"a", "\nPackage", "packag", "package1", "packagea", "_package", "import", "import \"b\"", "\n\"package\"", "`package`", "(", ")", ".", ";;(", "package\x80", "\ufeffpackage a", "//go:build x\nimport \"b\"",
		"package", "package ", "package//", "package /**/", "\npackage /* b */", "package;", "package;a", "package (", "package (a)", "package )", "package .", "package .a", "package \"a\"", "package `a`",
		"package a b", "package a package b", "package a import \"b\"", "package a import", "package a /**/ b", "package a.b", "package a.", "package a(", "package a)", "package a\"\"", "package a`b`", "package \xc3\xa9 \xff", "\n\n/*\n*/package a b",
		"package a;import", "package a\nimport", "package a\nimport ", "package a\nimport//", "package a\nimport/**/", "package a\nimport;", "package a\nimport;\"b\"", "package a\nimport )", "package a\nimport )\"b\"", "package a\nimport{}", "package a\nimport import",
		"package a\nimport x", "package a\nimport x//\"b\"", "package a\nimport x;", "package a\nimport x;\"b\"", "package a\nimport x y", "package a\nimport x y \"b\"", "package a\nimport x .", "package a\nimport x . \"b\"", "package a\nimport . x \"b\"", "package a\nimport .", "package a\nimport ..", "package a\nimport ..\"b\"", "package a\nimport x (", "package a\nimport . (\"b\")", "package a\nimport x )",
		"package a\nimport \"b\" \"c\"", "package a\nimport \"b\"\"c\"", "package a\nimport \"b\"x", "package a\nimport \"b\" import \"c\"", "package a\nimport \"b\".", "package a\nimport \"b\" (", "package a\nimport \"b\")", "package a\nimport \"b\"`c`", "package a\nimport `b`/**/x", "package a\nimport x \"b\", \"c\"", "package a;import \"b\" func",
		"package a\nimport (", "package a\nimport (\n", "package a\nimport (;", "package a\nimport ( //", "package a\nimport (\n\n//\n/**/", "package a\nimport ((", "package a\nimport (\n(", "package a\nimport ({", "package a\nimport (import (\"b\"))",
		"package a\nimport (x", "package a\nimport (x)", "package a\nimport (x;", "package a\nimport (x;\"b\")", "package a\nimport (x y", "package a\nimport (x.\"b\")", "package a\nimport (.x\"b\")", "package a\nimport (.)", "package a\nimport (x(", "package a\nimport (.", "package a\nimport (..",
		"package a\nimport (\"b\"", "package a\nimport (\"b\"\n", "package a\nimport (\"b\";", "package a\nimport (\"b\" //", "package a\nimport (\"b\" //\n/**/", "package a\nimport (\"b\"\"c\")", "package a\nimport (\"b\" x \"c\")", "package a\nimport (\"b\" . \"c\")", "package a\nimport (\"b\" /**/ \"c\")", "package a\nimport (\n\"b\" x", "package a\nimport (\"b\"(", "package a\nimport (\"b\".", "package a\nimport (\"b\", \"c\")", "package a\nimport (\"b\";\n\"c\";\nx\"d\"\"e\"",
		"package a\nimport () x", "package a\nimport ()()", "package a\nimport (\"b\"))", "package a\nimport (\"b\")\"c\"", "package a\nimport (\"b\") import \"c\"", "package a\nimport (\n\"b\"\n).", "package a\nimport (\n\"b\"\n) /**/ x",
		"package a\nimport \"b\"\nimport", "package a\nimport \"b\"\nimport (\n\"c\"\n)\nimport x y", "package a\n;import x", "package a;;\n;\nimport;",
	} {
		refuses(t, src, strings.Count(src, "\n")+1, api.ErrSyntax)
	}
}

// An end that cannot be stands where its newline does, also within a comment.
func TestP14_1_EndsThatCannotBe(t *testing.T) {
	for _, end := range []string{"\n", " \n", "//\n", " // x\n", "/*\n*/", " /*\n\n\n*/ ", "/**//*\n*/", "\r\n", ";\n", " ;", "//\n//\n", "\n\n\n"} {
		for _, cut := range [][2]string{
			{"package", "a"},
			{"package a;import", "\"b\""}, {"package a;import", "x \"b\""}, {"package a;import", "(\"b\")"}, {"package a;import", "()"},
			{"package a;import x", "\"b\""}, {"package a;import .", "\"b\""},
			{"package a;import (x", "\"b\")"}, {"package a;import (.", "\"b\")"}, {"package a;import (\"b\";_", "`c`)"},
		} {
			refuses(t, cut[0]+end+cut[1], 1, api.ErrSyntax)
			refuses(t, "\n/*\n*/"+cut[0]+end+cut[1]+"\n\n", 3, api.ErrSyntax)
		}
	}
}

// A comment or a string without an end is a fault wherever something is looked at.
func TestP14_1_WithoutAnEnd(t *testing.T) {
	for _, bad := range []string{
		"/*", "/* x", "/*/", "/* *", "/*\n", "/*\n\n*\n/", "/* /*", "/***", "/*\"*\"/", "/* //",
		"\"", "\"b", "\"b\n\"", "\"\n", "\"b\\\"", "\"\\\"", "\"b\\", "\"\\", "\"b\\\\\\\"", "\"`", "\"b'", "\"b\\\n\"", "\"/*", "\"//",
		"\"\\n\"", "\"b\\x\"", "\"b\\\\\\`\"", "\"\\'\"", "\"\\u0062\"", "\"\\\x00\"", "\"\\ \"", "\"\\\t", "\"b\\/\"",
		"`", "`b", "`b\n", "`\n\n\n", "`\\", "`\"", "`/*", "`//\n",
	} {
		for _, ahead := range []string{
			"", "\n", ";", "//go:build x\n", "/**/", "package ", "package a", "package a ", "package a\n", "package a;", "package a //\n\n", "package a/*\n*/", "package a\n;;\n",
			"package a\nimport ", "package a\nimport x ", "package a;import .", "package a\nimport (", "package a\nimport (\n", "package a;import (x", "package a\nimport (\"b\"", "package a\nimport (\"b\"\n", "package a\nimport (\n\"b\";_ ",
			"package a\nimport \"b\"", "package a\nimport \"b\"\n", "package a\nimport (\"b\")", "package a\nimport (\"b\")\n", "package a\nimport ()\n\n;",
		} {
			line := strings.Count(ahead, "\n") + 1
			refuses(t, ahead+bad, line, api.ErrSyntax)
			refuses(t, ahead+" /* x */ "+bad, line, api.ErrSyntax)
		}
		// Nothing is looked at behind the first other token, nor in a comment.
		reads(t, "package a\nx "+bad, source("a"))
		reads(t, "package a\n? "+bad, source("a"))
		reads(t, "package a\n``"+bad, source("a"))
		if !strings.Contains(bad, "\n") {
			reads(t, "package a // "+bad, source("a"))
		}
	}
}

// A `/` alone begins no token; so it is a fault, or the end of what is looked at.
func TestP14_1_BytesInNoToken(t *testing.T) {
	for _, ahead := range []string{
		"", "\n", ";\n ", "/**/", "package ", "package a", "package a ", "\n\npackage a",
		"package a\nimport", "package a\nimport ", "package a;import x", "package a;import . ", "package a;import (", "package a;import (\n", "package a;import (x ", "package a;import (\"b\"", "package a;import (\"b\";", "package a\nimport \"b\"", "package a\n\nimport (\"b\")",
	} {
		for c := range 256 {
			b := string([]byte{byte(c)})
			if nameByte(c) && (c < '0' || c > '9') || strings.Contains(" \t\r\n\"`().;", b) {
				continue
			}
			if c >= '0' && c <= '9' && (strings.HasSuffix(ahead, "a") || strings.HasSuffix(ahead, "import x") || strings.HasSuffix(ahead, "import")) {
				continue // it is one more byte of the name
			}
			refuses(t, ahead+b, strings.Count(ahead, "\n")+1, api.ErrSyntax)
			refuses(t, ahead+b+"x\n", strings.Count(ahead, "\n")+1, api.ErrSyntax)
		}
	}
	for c := range 256 {
		b := string([]byte{byte(c)})
		if !strings.Contains("\"`", b) {
			reads(t, "package a\n"+b, source("a"))
			reads(t, "package a;import \"b\";"+b+" x", source("a", "b"))
		}
	}
}

// nameByte tells whether a byte may stand in a name.
func nameByte(c int) bool {
	return c >= 0x80 || c == '_' || '0' <= c && c <= '9' || 'a' <= c && c <= 'z' || 'A' <= c && c <= 'Z'
}

func TestP14_1_EachByteOfAName(t *testing.T) {
	for c := range 256 {
		b := string([]byte{byte(c)})
		switch {
		case nameByte(c):
			reads(t, "package a"+b+"c", source("a"+b+"c"))
		case strings.Contains(" \t\r", b):
			refuses(t, "package a"+b+"c", 1, api.ErrSyntax)
		case c == '\n' || c == ';':
			reads(t, "package a"+b+"c", source("a"))
		default:
			refuses(t, "package a"+b+"c", 1, api.ErrSyntax)
		}
		if nameByte(c) && (c < '0' || c > '9') {
			reads(t, "package "+b, source(b))
			reads(t, "package a;import "+b+"\"c\"", source("a", "c"))
		} else {
			refuses(t, "package "+b, 1, api.ErrSyntax)
		}
	}
}

func TestP14_1_Paths(t *testing.T) {
	long := strings.Repeat("b", api.MaxPath)
	reads(t, "package a\nimport \""+long+"\"", source("a", long))
	for _, path := range []string{
		"", "/", "/b", "b/", "b//c", ".", "..", "./b", "../b", ".b", "b.", "b/.c", "b/c.", "b c", " b", "b ", "\t", "b\tc", "b\rc", "b:c", "b@c", "b!c", "b,c", "b;c", "(b)", "b'c", "*", "\x00", "\x7f", "é", "\xff", "b\x80", "//b", "b/*c*/", long + "b", long + "/" + long, "b&c", "b=c", "%62", "b`c", "b\"c", "b\\c", "\\", "\"", "b\\\"c", "\n", "b\n", "\nb",
	} {
		var strs []string
		if !strings.Contains(path, "`") {
			strs = append(strs, "`"+path+"`")
		}
		if !strings.Contains(path, "\n") {
			strs = append(strs, "\""+strings.NewReplacer("\\", "\\\\", "\"", "\\\"").Replace(path)+"\"")
		}
		for _, s := range strs {
			refuses(t, "package a;import "+s, 1, api.ErrPath)
			refuses(t, "package a\nimport \"b\"\nimport x "+s+"\nimport", 3, api.ErrPath)
			refuses(t, "package a\n\nimport (\n\"b\"\n"+s+"\nx", 5, api.ErrPath)
			refuses(t, "package a\n\nimport (\n\"b\"\n."+s+" x", 5, api.ErrPath)
			refuses(t, "package a;import "+s+"\"", 1, api.ErrPath)
			refuses(t, "package a;import "+s+"\nimport \"/\"", 1, api.ErrPath)
			reads(t, "package a\n"+s, source("a"))
			reads(t, "package a\nx\nimport "+s, source("a"))
			refuses(t, "package a\nimport x y "+s, 2, api.ErrSyntax)
			refuses(t, "package a\nimport \"b\" "+s, 2, api.ErrSyntax)
			refuses(t, "package "+s, 1, api.ErrSyntax)
			refuses(t, s, 1, api.ErrSyntax)
		}
	}
}

func TestP14_1_ConstraintsAtFault(t *testing.T) {
	over := strings.Repeat("x", api.MaxLine+1)
	for _, c := range []string{"", " ", "\t", "\r", " \t\r ", "(", "x y", "x &", "!", "x\ry", "x\vy", "é", "x // y", "x /* y */", "x,y", "go:build", "-x", over, "(" + over + ")", "x\x00", "&& x", "x ||", "()"} {
		bad := "//go:build " + c
		refuses(t, lines(bad, "package a"), 1, api.ErrSyntax)
		refuses(t, lines("", "/*", "*/", bad, "package a"), 4, api.ErrSyntax)
		refuses(t, bad, 1, api.ErrSyntax)
		refuses(t, lines(";//", bad), 2, api.ErrSyntax)
		// The first fault of several.
		refuses(t, lines(bad, "//go:build x", "package a"), 1, api.ErrSyntax)
		refuses(t, lines(bad, "?"), 1, api.ErrSyntax)
		refuses(t, lines("?", bad), 1, api.ErrSyntax)
		refuses(t, lines("", "x", bad), 2, api.ErrSyntax)
		refuses(t, lines(bad, "package a", `import "/"`), 1, api.ErrSyntax)
		refuses(t, lines("//go:build x", bad, "package a"), 2, api.ErrTwice)
		refuses(t, lines("//go:build x", "", bad, bad, "package a"), 3, api.ErrTwice)
	}
	long := strings.Repeat("x", api.MaxLine)
	reads(t, lines("//go:build \t "+long+"\t ", "package a"), constrained("a", long))
	refuses(t, lines("//go:build "+long[:500]+" "+long[:500], "package a"), 1, api.ErrSyntax)
	reads(t, lines("//go:build "+strings.Repeat(" ", 9000)+"x"+strings.Repeat("\r", 9000), "package a"), constrained("a", "x"))
}

func TestP14_1_ConstraintsTwice(t *testing.T) {
	for _, second := range []string{"x", "y", "x && y"} {
		c := "//go:build " + second
		refuses(t, lines("//go:build x", c, "package a"), 2, api.ErrTwice)
		refuses(t, lines("//go:build x", "", "", c, "package a"), 4, api.ErrTwice)
		refuses(t, lines("", "//go:build x", "// y", c), 4, api.ErrTwice)
		refuses(t, lines("//go:build x", ";", c, c, "package a"), 3, api.ErrTwice)
		refuses(t, lines("//go:build x", c, "?"), 2, api.ErrTwice)
		refuses(t, lines("//go:build x", c, "package a", `import "/"`), 2, api.ErrTwice)
		refuses(t, lines("//go:build x", "/*", c, "*/", c, "package a"), 5, api.ErrTwice)
		refuses(t, lines("//go:build x", "?", c), 2, api.ErrSyntax)
		refuses(t, lines("//go:build x", "package", c), 2, api.ErrSyntax)
		reads(t, lines("//go:build x", " "+c, "package a", c), constrained("a", "x"))
	}
}

// The first fault in the text is told, whatever follows.
func TestP14_1_TheFirstFault(t *testing.T) {
	faults := []struct {
		src string
		e   api.Errno
	}{
		{"import \"/\"", api.ErrPath}, {"import ``", api.ErrPath}, {"import x \" \"", api.ErrPath}, {"import ( \".\"", api.ErrPath},
		{"import x", api.ErrSyntax}, {"import", api.ErrSyntax}, {"import )", api.ErrSyntax}, {"import \"b\" c", api.ErrSyntax}, {"import \"b", api.ErrSyntax}, {"/*", api.ErrSyntax}, {"\"", api.ErrSyntax}, {"import ( x )", api.ErrSyntax},
	}
	for _, first := range faults {
		for _, second := range faults {
			refuses(t, lines("package a", first.src, second.src), 2, first.e)
			refuses(t, lines("package a", `import "b"`, first.src, second.src, "?"), 3, first.e)
			refuses(t, lines("//go:build x", "package a", first.src, second.src), 3, first.e)
			refuses(t, lines("//go:build x", "//go:build y", "package a", first.src, second.src), 2, api.ErrTwice)
			refuses(t, lines("//go:build", "package", first.src, second.src), 2, api.ErrSyntax)
			refuses(t, lines("package a b", first.src, second.src), 1, api.ErrSyntax)
			reads(t, lines("package a", "x", first.src, second.src), source("a"))
		}
	}
}
