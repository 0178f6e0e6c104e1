package ark

import (
	"strings"

	"mews/api"
)

const (
	sumHead      = "h1:"
	manifestName = "go.mod"
)

// H1 is the sum of files.
func H1(files []api.File) (string, api.Errno) {
	if e := checkNames(files); e != api.OK {
		return "", e
	}
	return sumOf(files), api.OK
}

// ManifestSum is the sum of a manifest.
func ManifestSum(data []byte) string {
	return sumOf([]api.File{{Name: manifestName, Data: data}})
}

// sumOf is the sum of files with names that may be.
func sumOf(files []api.File) string {
	var lines strings.Builder
	for _, f := range byName(files) {
		lines.WriteString(Hex(SHA256(f.Data)) + "  " + f.Name + "\n")
	}
	return sumHead + Base64(SHA256([]byte(lines.String())))
}
