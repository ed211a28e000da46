// Package rules has tests of what holds in all layers alike.
package rules

import (
	"go/parser"
	"go/token"
	"path/filepath"
	"strings"
	"testing"
)

// allowed are the packages of the library that the program may lean on: none of them tells the time, chance, files or a network (R7).
const allowed = " bytes cmp container/heap errors iter maps math math/bits slices sort strconv strings sync sync/atomic unicode unicode/utf8 "

func TestNoClockNoChanceNoFilesNoNetwork(t *testing.T) {
	files, err := filepath.Glob("../*/*.go")
	if err != nil || len(files) == 0 {
		t.Fatal("no files", err)
	}
	for _, name := range files {
		if strings.HasSuffix(name, "_test.go") || strings.Contains(name, "sharedtests") {
			continue
		}
		file, err := parser.ParseFile(token.NewFileSet(), name, nil, parser.ImportsOnly)
		if err != nil {
			t.Fatal(err)
		}
		for _, i := range file.Imports {
			path := strings.Trim(i.Path.Value, `"`)
			if !strings.HasPrefix(path, "guilloche/") && !strings.Contains(allowed, " "+path+" ") {
				t.Errorf("%s stands on %s", name, path)
			}
		}
	}
}
