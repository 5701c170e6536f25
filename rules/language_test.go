package rules

import (
	"go/ast"
	"go/parser"
	"go/token"
	"os"
	"path/filepath"
	"slices"
	"strconv"
	"strings"
	"testing"
)

// layers are the packages from the lowest one up; each may import those ahead of it alone.
func layers() []string {
	return []string{"api", "crc", "codec", "disk", "super", "log", "store", "relog", "alloc", "counts", "pool", "node", "tree",
		"ranges", "thin", "volumes", "sweep", "check", "pdu", "keys", "login", "tasks", "session", "model", "server", "lines"}
}

// library are the packages of Go's library that the program may import.
func library() []string {
	return []string{"bytes", "cmp", "container/heap", "errors", "iter", "maps", "math", "math/bits", "slices", "sort", "strconv",
		"strings", "sync", "sync/atomic", "unicode", "unicode/utf8"}
}

// sources are the parsed files of a package of the project, but its tests.
func sources(t *testing.T, name string) []*ast.File {
	t.Helper()
	paths, err := filepath.Glob(filepath.Join("..", name, "*"))
	if err != nil || len(paths) == 0 {
		t.Fatalf("package %s: no files (%v)", name, err)
	}
	var files []*ast.File
	for _, path := range paths {
		if strings.HasSuffix(path, "_test.go") || isFolder(path) {
			continue
		}
		if !strings.HasSuffix(path, ".go") {
			t.Errorf("%s: a file that is not Go", path)
			continue
		}
		file, err := parser.ParseFile(token.NewFileSet(), path, nil, parser.ParseComments)
		if err != nil {
			t.Fatal(err)
		}
		files = append(files, file)
	}
	return files
}

func isFolder(path string) bool {
	info, err := os.Stat(path)
	return err == nil && info.IsDir()
}

// imports are the paths that a file imports.
func imports(t *testing.T, file *ast.File) []string {
	t.Helper()
	var paths []string
	for _, spec := range file.Imports {
		path, err := strconv.Unquote(spec.Path.Value)
		if err != nil {
			t.Fatal(err)
		}
		paths = append(paths, path)
	}
	return paths
}

// TestImports: the project's own packages and the few of the library; a layer only those below it.
func TestImports(t *testing.T) {
	names := layers()
	for at := 0; at < len(names); at++ {
		for _, file := range sources(t, names[at]) {
			for _, path := range imports(t, file) {
				own, ok := strings.CutPrefix(path, "polder/")
				if !ok {
					if !slices.Contains(library(), path) {
						t.Errorf("package %s imports %s", names[at], path)
					}
					continue
				}
				other := slices.Index(names, own)
				if other < 0 { // a package beside the layers is looked at behind them
					names = append(names, own)
				} else if other >= at && other < len(layers()) && at < len(layers()) {
					t.Errorf("package %s imports %s, which is not below it", names[at], path)
				}
			}
		}
	}
}

// TestAlone: layers that stand on package api alone, or on it and a few, import no other one.
func TestAlone(t *testing.T) {
	for name, few := range map[string][]string{"crc": nil, "disk": nil, "alloc": nil, "node": nil, "counts": {"codec"}, "pool": {"codec", "disk", "store", "alloc", "counts"}, "tree": {"codec", "pool", "node"}, "ranges": {"pool", "tree"}, "thin": {"pool", "tree"}, "volumes": {"codec", "pool", "tree", "ranges", "thin"}, "sweep": {"pool", "ranges", "volumes"}, "check": {"counts", "pool", "tree", "volumes"}, "pdu": {"crc"}} {
		for _, file := range sources(t, name) {
			for _, path := range imports(t, file) {
				own, ok := strings.CutPrefix(path, "polder/")
				if ok && own != "api" && slices.Contains(layers(), own) && !slices.Contains(few, own) {
					t.Errorf("package %s imports %s, and stands on api alone, and on %v", name, path, few)
				}
			}
		}
	}
}

// TestDirectives: no //go: line and no build tag.
func TestDirectives(t *testing.T) {
	for _, name := range layers() {
		for _, file := range sources(t, name) {
			for _, group := range file.Comments {
				for _, comment := range group.List {
					if strings.HasPrefix(comment.Text, "//go:") || strings.HasPrefix(comment.Text, "// +build") {
						t.Errorf("package %s has the line %s", name, comment.Text)
					}
				}
			}
		}
	}
}
