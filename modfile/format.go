package modfile

import (
	"strings"

	"mews/api"
)

// Canon is the same, in order.
func Canon(f File) File {
	return File{
		Module:  f.Module,
		Go:      f.Go,
		Require: requires(f.Module).sorted(f.Require),
		Exclude: excludes().sorted(f.Exclude),
		Replace: replaces().sorted(f.Replace),
		Retract: retracts().sorted(f.Retract),
	}
}

// Format is its text.
func Format(f File) (string, api.Errno) {
	if e := Check(f); e != api.OK {
		return "", e
	}
	text := write(Canon(f))
	if len(text) > api.MaxText {
		return "", api.ErrLong
	}
	return text, api.OK
}

// write is the text of a manifest whose lists are in order.
func write(f File) string {
	text := "module " + f.Module + "\n"
	if f.Go != "" {
		text += "\ngo " + f.Go + "\n"
	}
	return text +
		requires(f.Module).block("require", f.Require) +
		excludes().block("exclude", f.Exclude) +
		replaces().block("replace", f.Replace) +
		retracts().block("retract", f.Retract)
}

// block is the text of a list, with the empty line ahead of it.
func (k kind[T]) block(word string, list []T) string {
	if len(list) == 0 {
		return ""
	}
	var text strings.Builder
	text.WriteString("\n" + word + " (\n")
	for _, element := range list {
		text.WriteString("\t" + k.write(element) + "\n")
	}
	text.WriteString(")\n")
	return text.String()
}

func writeRequire(r Require) string {
	text := r.Path + " " + r.Version
	if r.Indirect {
		text += " // " + indirect
	}
	return text
}

func writeMod(m api.Mod) string { return m.Path + " " + m.Version }

func writeReplace(r Replace) string {
	old := r.Old.Path
	if r.Old.Version != "" {
		old = writeMod(r.Old)
	}
	return old + " => " + writeMod(r.New)
}

func writeRetract(r Retract) string {
	if r.Low == r.High {
		return r.Low
	}
	return "[" + r.Low + ", " + r.High + "]"
}
