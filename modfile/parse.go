package modfile

import (
	"strings"

	"mews/api"
	"mews/mod"
)

// fault is what a text is given up with from within.
type fault struct {
	line  int
	errno api.Errno
}

// statement is how one is read without its word.
type statement struct {
	read   func(l line)
	blocks bool // whether its word may begin a block
}

// parser is a text that is being read.
type parser struct {
	file       File
	number     int                  // the line's, from 1 on
	statements map[string]statement // by their word
	inside     func(l line)         // how a line of the open block is read; nil, if none is open
}

// Parse is the manifest of a text.
func Parse(text string) (f File, number int, e api.Errno) {
	defer func() {
		switch given := recover().(type) {
		case nil:
		case fault:
			number, e = given.line, given.errno
		default:
			panic(given)
		}
	}()
	return parse(text), 0, api.OK
}

// parse panics with the fault, if there is one.
func parse(text string) File {
	p := &parser{}
	p.statements = statements(p)
	p.refuseIf(len(text) > api.MaxText, api.ErrLong)
	for text != "" {
		first, rest, _ := strings.Cut(text, "\n")
		p.number++
		p.readLine(first)
		text = rest
	}
	p.readEnd()
	return Canon(p.file)
}

// refuseIf gives the text up at the line that is being read.
func (p *parser) refuseIf(holds bool, e api.Errno) {
	if holds {
		panic(fault{p.number, e})
	}
}

func statements(p *parser) map[string]statement {
	return map[string]statement{
		"module":  {read: p.readModule},
		"go":      {read: p.readGo},
		"require": listed(p, requires(""), &p.file.Require),
		"exclude": listed(p, excludes(), &p.file.Exclude),
		"replace": listed(p, replaces(), &p.file.Replace),
		"retract": listed(p, retracts(), &p.file.Retract),
	}
}

// listed is the statement whose elements go to a list.
func listed[T any](p *parser, k kind[T], list *[]T) statement {
	read := func(l line) {
		element, ok := k.read(l)
		p.refuseIf(!ok, api.ErrSyntax)
		p.refuseIf(len(*list) >= api.MaxMods, api.ErrMany)
		e := k.checkNext(*list, element)
		p.refuseIf(e != api.OK, e)
		*list = append(*list, element)
	}
	return statement{read: read, blocks: true}
}

func (p *parser) readModule(l line) {
	p.refuseIf(l.shape() != "word", api.ErrSyntax)
	p.refuseIf(p.file.Module != "", api.ErrTwice)
	e := mod.CheckPath(l.tokens[0])
	p.refuseIf(e != api.OK, e)
	p.file.Module = l.tokens[0]
}

func (p *parser) readGo(l line) {
	p.refuseIf(l.shape() != "word", api.ErrSyntax)
	_, ok := minor(l.tokens[0])
	p.refuseIf(!ok, api.ErrSyntax)
	p.refuseIf(p.file.Go != "", api.ErrTwice)
	p.file.Go = l.tokens[0]
}

func (p *parser) readLine(text string) {
	p.refuseIf(len(text) > api.MaxLine, api.ErrLong)
	l, ok := scan(text)
	p.refuseIf(!ok, api.ErrSyntax)
	switch {
	case len(l.tokens) == 0:
	case p.inside == nil:
		p.readStatement(l)
	case l.shape() == ")":
		p.inside = nil
	default:
		p.inside(l)
	}
}

// readStatement reads a line outside of blocks.
func (p *parser) readStatement(l line) {
	found, ok := p.statements[l.tokens[0]]
	p.refuseIf(!ok, api.ErrSyntax)
	behind := line{l.tokens[1:], l.comment}
	if found.blocks && behind.shape() == "(" {
		p.inside = found.read
		return
	}
	found.read(behind)
}

// readEnd looks at what only the whole text tells.
func (p *parser) readEnd() {
	p.number++
	p.refuseIf(p.inside != nil, api.ErrSyntax)
	p.number = 0
	p.refuseIf(p.file.Module == "", api.ErrNone)
	_, itself := Version(p.file, p.file.Module)
	p.refuseIf(itself, api.ErrTwice)
}
