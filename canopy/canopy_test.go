package canopy

import (
	"fmt"
	"maps"
	"math"
	"strings"
	"testing"
)

func newStore(t *testing.T, cells int) *Store {
	t.Helper()
	s, err := New(cells)
	if s == nil || err != OK {
		t.Fatalf("New(%d) = %v, %d", cells, s, err)
	}
	return s
}

// filesOf reads a snapshot: its paths and their data.
func filesOf(s *Store, snapshot int) map[string]string {
	files := map[string]string{}
	collect(s.snapshots[snapshot], "", files)
	return files
}

func collect(n node, path string, files map[string]string) {
	switch n := n.(type) {
	case *file:
		files[path] = n.data
	case *directory:
		for _, e := range n.list.entries[:n.list.count] {
			collect(e.node, strings.TrimPrefix(path+"/"+e.name, "/"), files)
		}
	}
}

type files = map[string]string

func wantFiles(t *testing.T, s *Store, snapshot int, want files) {
	t.Helper()
	if s.snapshots[snapshot] == nil {
		t.Errorf("snapshot %d is not there", snapshot)
	}
	if got := filesOf(s, snapshot); !maps.Equal(got, want) {
		t.Errorf("snapshot %d has %q, want %q", snapshot, got, want)
	}
}

func wantCells(t *testing.T, s *Store, want int) {
	t.Helper()
	if got := s.Cells(); got != want {
		t.Errorf("Cells() = %d, want %d", got, want)
	}
}

func wantPut(t *testing.T, s *Store, snapshot int, path, data string, want int, wantErr Errno) {
	t.Helper()
	if got, err := s.Put(snapshot, path, data); got != want || err != wantErr {
		t.Errorf("Put(%d, %q, %q) = %d, %d, want %d, %d", snapshot, path, data, got, err, want, wantErr)
	}
}

func wantDelete(t *testing.T, s *Store, snapshot int, path string, want int, wantErr Errno) {
	t.Helper()
	if got, err := s.Delete(snapshot, path); got != want || err != wantErr {
		t.Errorf("Delete(%d, %q) = %d, %d, want %d, %d", snapshot, path, got, err, want, wantErr)
	}
}

func wantMove(t *testing.T, s *Store, snapshot int, from, to string, want int, wantErr Errno) {
	t.Helper()
	if got, err := s.Move(snapshot, from, to); got != want || err != wantErr {
		t.Errorf("Move(%d, %q, %q) = %d, %d, want %d, %d", snapshot, from, to, got, err, want, wantErr)
	}
}

func wantRelease(t *testing.T, s *Store, snapshot int, want Errno) {
	t.Helper()
	if err := s.Release(snapshot); err != want {
		t.Errorf("Release(%d) = %d, want %d", snapshot, err, want)
	}
}

// putAll makes snapshots one upon the other, releases those between, and answers the last one's number.
func putAll(t *testing.T, s *Store, snapshot int, paths ...string) int {
	t.Helper()
	for i, path := range paths {
		next, err := s.Put(snapshot, path, "x")
		if err != OK {
			t.Fatalf("Put(%d, %q): %d", snapshot, path, err)
		}
		if i > 0 {
			wantRelease(t, s, snapshot, OK)
		}
		snapshot = next
	}
	return snapshot
}

// fillSnapshots makes copies of a snapshot until MaxSnapshots are there.
func fillSnapshots(t *testing.T, s *Store, snapshot int, path string) {
	t.Helper()
	for len(s.snapshots) < 12 {
		if _, err := s.Put(snapshot, path, "x"); err != OK {
			t.Fatalf("Put(%d, %q): %d", snapshot, path, err)
		}
	}
}

func someFiles(count int) []string {
	var paths []string
	for i := range count {
		paths = append(paths, fmt.Sprintf("d/f%d", i))
	}
	return paths
}

var oddNumbers = []int{0, 1, -1, 2, 12, 200, 201, math.MaxInt, math.MinInt, math.MaxInt32 + 1}

func oddTexts() []string {
	return append([]string{"a", "a/b", "b", "x y", "exists /", "glob **", "first a /", "\x00", "é", strings.Repeat("*", 100), strings.Repeat("a", 1<<20), strings.Repeat("a/", 1<<20), strings.Repeat("/", 1<<20)}, noPaths...)
}

// TestP1Ends: every call ends and none panics, and beside an error stand zero values.
func TestP1Ends(t *testing.T) {
	for _, n := range oddNumbers {
		if s, err := New(n); (s == nil) != (err != OK) {
			t.Errorf("New(%d) = %v, %d", n, s, err)
		}
	}
	for _, n := range oddNumbers {
		for _, a := range oddTexts() {
			s := newStore(t, 200)
			s.Put(0, "a/b", "x")
			for _, b := range oddTexts() {
				callAll(t, s, n, a, b)
			}
		}
	}
}

func callAll(t *testing.T, s *Store, n int, a, b string) {
	t.Helper()
	number := func(call string, m int, err Errno) {
		if err != OK && m != 0 {
			t.Errorf("%s with %d, %.20q, %.20q answers %d beside the error %d", call, n, a, b, m, err)
		}
	}
	text := func(call string, answer string, err Errno) {
		if err != OK && answer != "" {
			t.Errorf("%s with %d, %.20q, %.20q answers %.20q beside the error %d", call, n, a, b, answer, err)
		}
	}
	m, err := s.Put(n, a, b)
	number("Put", m, err)
	m, err = s.Delete(n, a)
	number("Delete", m, err)
	m, err = s.Move(n, a, b)
	number("Move", m, err)
	if same, err := s.Same(n, 0, a); err != OK && same {
		t.Errorf("Same(%d, 0, %.20q) answers true beside the error %d", n, a, err)
	}
	answer, err := s.Diff(n, 0)
	text("Diff", answer, err)
	answer, err = s.Ask(n, a)
	text("Ask", answer, err)
	s.Rule(a, b, a)
	s.Rule("rule", "list /", a)
	s.Rule("one", b)
	answer, err = s.Plan(n)
	text("Plan", answer, err)
	s.Release(n)
	s.Cells()
}

// TestP1FirstErrorOfPut: several errors apply at once; they are mended one by one, in the promise's order.
func TestP1FirstErrorOfPut(t *testing.T) {
	s := newStore(t, 6)
	full := putAll(t, s, 0, someFiles(20)...)
	fillSnapshots(t, s, full, "d/f0")
	wantCells(t, s, 4)
	long := strings.Repeat("x", 31)
	wantPut(t, s, 99, "A", long, 0, ErrSnapshot)
	wantPut(t, s, full, "A", long, 0, ErrPath)
	wantPut(t, s, full, "d", long, 0, ErrLong)
	wantPut(t, s, full, "d", "y", 0, ErrKind)
	wantPut(t, s, full, "d/f0/a", "y", 0, ErrKind)
	wantPut(t, s, full, "e/f/g", "y", 0, ErrMany)
	wantPut(t, s, 0, "e/f/g", "y", 0, ErrMany)
	wantPut(t, s, full, "d/f0", "y", 0, ErrMany)
	wantRelease(t, s, full+1, OK)
	wantPut(t, s, full, "e/f/g", "y", 0, ErrMany)
	wantPut(t, s, 0, "e/f/g", "y", 0, ErrFull)
	wantPut(t, s, 0, "e", "y", full+11, OK)
}

func TestP1FirstErrorOfDelete(t *testing.T) {
	s := newStore(t, 8)
	n := putAll(t, s, 0, "d/e/f", "d/e/g")
	wantPut(t, s, 0, "h", "y", n+1, OK)
	fillSnapshots(t, s, n, "d/e/f")
	wantCells(t, s, 7)
	wantDelete(t, s, 99, "A", 0, ErrSnapshot)
	wantDelete(t, s, n, "A", 0, ErrPath)
	wantDelete(t, s, n, "d/g", 0, ErrAbsent)
	wantDelete(t, s, n, "d/e/f", 0, ErrMany)
	wantRelease(t, s, n+2, OK)
	wantDelete(t, s, n, "d/e/f", 0, ErrFull)
	wantDelete(t, s, n, "d", n+11, OK)
}

func TestP1FirstErrorOfMove(t *testing.T) {
	s := newStore(t, 6)
	n := putAll(t, s, 0, "d/e/f", "g")
	fillSnapshots(t, s, n, "g")
	wantCells(t, s, 5)
	wantMove(t, s, 99, "A", "A", 0, ErrSnapshot)
	wantMove(t, s, n, "h", "A", 0, ErrPath)
	wantMove(t, s, n, "A", "g", 0, ErrPath)
	wantMove(t, s, n, "h", "g", 0, ErrAbsent)
	wantMove(t, s, n, "h", "h", 0, ErrAbsent)
	wantMove(t, s, n, "d", "g/a/b/c/d", 0, ErrKind)
	wantMove(t, s, n, "d", "d/a/b/c/d", 0, ErrKind)
	wantMove(t, s, n, "d", "a/b/c/d", 0, ErrPath)
	wantMove(t, s, n, "d", "a/b/c", 0, ErrMany)
	wantRelease(t, s, n+1, OK)
	wantMove(t, s, n, "d", "a/b/c", 0, ErrFull)
	wantMove(t, s, n, "d", "a", n+11, OK)
}

// TestP1NothingChanges: a refused call takes no number, no room and no file.
func TestP1NothingChanges(t *testing.T) {
	s := newStore(t, 5)
	wantPut(t, s, 0, "a/b", "x", 1, OK)
	for range 50 {
		wantPut(t, s, 1, "c/d/e", "y", 0, ErrFull)
		wantPut(t, s, 1, "a", "y", 0, ErrKind)
		wantDelete(t, s, 1, "c", 0, ErrAbsent)
		wantMove(t, s, 1, "a", "c/d/e", 0, ErrFull)
		wantMove(t, s, 1, "a/b", "c/d/e", 0, ErrFull)
		wantRelease(t, s, 2, ErrSnapshot)
		wantCells(t, s, 4)
	}
	wantFiles(t, s, 0, files{})
	wantFiles(t, s, 1, files{"a/b": "x"})
	wantPut(t, s, 1, "c", "x", 2, OK)
	wantCells(t, s, 5)
}

// TestP2Stores: what is done to one store is not seen in another one.
func TestP2Stores(t *testing.T) {
	a, b := newStore(t, 20), newStore(t, 4)
	wantPut(t, a, 0, "a/b", "x", 1, OK)
	wantCells(t, b, 1)
	wantPut(t, b, 1, "a", "x", 0, ErrSnapshot)
	wantPut(t, b, 0, "a/b", "x", 1, OK)
	wantRelease(t, a, 0, OK)
	wantRelease(t, a, 1, OK)
	wantCells(t, a, 0)
	wantCells(t, b, 4)
	wantFiles(t, b, 0, files{})
	wantFiles(t, b, 1, files{"a/b": "x"})
	wantPut(t, b, 1, "c", "y", 0, ErrFull)
	wantCells(t, newStore(t, 1), 1)
}

func TestP3New(t *testing.T) {
	for _, cells := range []int{1, 2, 199, 200} {
		s := newStore(t, cells)
		wantCells(t, s, 1)
		wantFiles(t, s, 0, files{})
		wantRelease(t, s, 1, ErrSnapshot)
		wantRelease(t, s, 0, OK)
	}
	for _, cells := range []int{0, -1, 201, math.MaxInt, math.MinInt} {
		if s, err := New(cells); s != nil || err != ErrArg {
			t.Errorf("New(%d) = %v, %d, want nil, %d", cells, s, err, ErrArg)
		}
	}
}

func TestP4Put(t *testing.T) {
	s := newStore(t, 200)
	wantPut(t, s, 0, "src/a.c", "x", 1, OK)
	wantPut(t, s, 1, "lib/a.c", "x", 2, OK)
	wantPut(t, s, 1, "src/a.c", "", 3, OK)
	wantPut(t, s, 1, "src/b.c", "y", 4, OK)
	wantPut(t, s, 1, "src.", "z", 5, OK)
	wantPut(t, s, 1, "srcs/a", "z", 6, OK)
	wantFiles(t, s, 0, files{})
	wantFiles(t, s, 1, files{"src/a.c": "x"})
	wantFiles(t, s, 2, files{"src/a.c": "x", "lib/a.c": "x"})
	wantFiles(t, s, 3, files{"src/a.c": ""})
	wantFiles(t, s, 4, files{"src/a.c": "x", "src/b.c": "y"})
	wantFiles(t, s, 5, files{"src/a.c": "x", "src.": "z"})
	wantFiles(t, s, 6, files{"src/a.c": "x", "srcs/a": "z"})
	for _, n := range []int{7, -1, math.MaxInt, math.MinInt} {
		wantPut(t, s, n, "a", "x", 0, ErrSnapshot)
	}
}

func TestP4PutKind(t *testing.T) {
	s := newStore(t, 200)
	n := putAll(t, s, 0, "a/b/c", "d")
	for _, path := range []string{"a", "a/b", "a/b/c/d", "a/b/c/d/e", "d/e", "d/e/f/g/h"} {
		wantPut(t, s, n, path, "x", 0, ErrKind)
	}
	wantPut(t, s, n, "a/b/cc", "x", n+1, OK)
	wantPut(t, s, n, "a/b/c", "x", n+2, OK)
	wantPut(t, s, n, "dd/e", "x", n+3, OK)
}

func TestP4Paths(t *testing.T) {
	right := []string{"a", "z", "0", "9", ".", "..", "abcdefgh", "a/b/c/d/e", "abcdefgh/abcdefgh/abcdefgh/abcdefgh/abcdefgh", "a/a", ".../..."}
	wrong := []string{"", "/", "//", "a/", "/a", "a//b", "a/b/c/d/e/", "a/b/c/d/e/f", "abcdefghi", "a/abcdefghi", "A", "Z", "a b", " a", "a\n", "a*", "?", "a-b", "a_b", "a:b", "`", "{", "-", "\x00", "\x80", "é", "a/é", "a\\b"}
	for _, path := range right {
		s := newStore(t, 200)
		wantDelete(t, s, 0, path, 0, ErrAbsent)
		wantPut(t, s, 0, path, "x", 1, OK)
		wantFiles(t, s, 1, files{path: "x"})
	}
	for _, path := range append(wrong, strings.Repeat("a", 1<<20), strings.Repeat("a/", 1<<20)) {
		s := newStore(t, 200)
		wantPut(t, s, 0, path, "x", 0, ErrPath)
		wantDelete(t, s, 0, path, 0, ErrPath)
		wantMove(t, s, 0, path, "b", 0, ErrPath)
		wantMove(t, s, 0, "b", path, 0, ErrPath)
	}
}

func TestP4Data(t *testing.T) {
	s := newStore(t, 200)
	for i, data := range []string{"", "\x00\xff\n", strings.Repeat("x", 29), strings.Repeat("x", 30), strings.Repeat("é", 15)} {
		wantPut(t, s, 0, "a", data, i+1, OK)
		wantFiles(t, s, i+1, files{"a": data})
	}
	for _, data := range []string{strings.Repeat("x", 31), strings.Repeat("é", 15) + "x", strings.Repeat("x", 1<<20)} {
		wantPut(t, s, 0, "a", data, 0, ErrLong)
	}
}

func TestP4ManyFiles(t *testing.T) {
	s := newStore(t, 200)
	n := putAll(t, s, 0, someFiles(19)...)
	wantPut(t, s, n, "e", "x", n+1, OK)
	wantPut(t, s, n+1, "g", "x", 0, ErrMany)
	wantPut(t, s, n+1, "d/f99", "x", 0, ErrMany)
	wantPut(t, s, n+1, "d/f7", "y", n+2, OK)
	wantMove(t, s, n+1, "e", "g/h", n+3, OK)
	wantDelete(t, s, n+1, "e", n+4, OK)
	wantPut(t, s, n+4, "g", "x", n+5, OK)
	if count := len(filesOf(s, n+5)); count != 20 {
		t.Errorf("%d files, want 20", count)
	}
}

// TestP4WideDirectory: all the files there may be lie in one directory, put in whatever order.
func TestP4WideDirectory(t *testing.T) {
	s := newStore(t, 200)
	want := files{}
	n := 0
	for i := range 20 {
		path := string(rune('a' + i*7%20))
		want[path] = path
		wantPut(t, s, n, path, path, n+1, OK)
		wantRelease(t, s, n, OK)
		n++
	}
	wantFiles(t, s, n, want)
	list := s.snapshots[n].list
	for i := range list.count - 1 {
		if list.entries[i].name >= list.entries[i+1].name {
			t.Errorf("%q stands ahead of %q", list.entries[i].name, list.entries[i+1].name)
		}
	}
}

func TestP4ManySnapshots(t *testing.T) {
	s := newStore(t, 200)
	for i := range 11 {
		wantPut(t, s, 0, "a", "x", i+1, OK)
	}
	wantPut(t, s, 0, "a", "x", 0, ErrMany)
	wantDelete(t, s, 1, "a", 0, ErrMany)
	wantMove(t, s, 1, "a", "b", 0, ErrMany)
	wantRelease(t, s, 5, OK)
	wantMove(t, s, 1, "a", "b", 12, OK)
	wantPut(t, s, 0, "a", "x", 0, ErrMany)
}

func TestP4Delete(t *testing.T) {
	s := newStore(t, 200)
	n := putAll(t, s, 0, "a/b/c", "a/b/d", "a/e", "f")
	wantDelete(t, s, n, "f", n+1, OK)
	wantDelete(t, s, n, "a/b", n+2, OK)
	wantDelete(t, s, n, "a", n+3, OK)
	wantDelete(t, s, n+3, "f", n+4, OK)
	wantDelete(t, s, n+2, "a/e", n+5, OK)
	wantFiles(t, s, n, files{"a/b/c": "x", "a/b/d": "x", "a/e": "x", "f": "x"})
	wantFiles(t, s, n+1, files{"a/b/c": "x", "a/b/d": "x", "a/e": "x"})
	wantFiles(t, s, n+2, files{"a/e": "x", "f": "x"})
	wantFiles(t, s, n+3, files{"f": "x"})
	wantFiles(t, s, n+4, files{})
	wantFiles(t, s, n+5, files{"f": "x"})
	for _, path := range []string{"b", "a/c", "a/b/e", "f/a", "a/b/c/d", "a/b/c/d/e"} {
		wantDelete(t, s, n, path, 0, ErrAbsent)
	}
	wantDelete(t, s, n, "/", 0, ErrPath)
	wantDelete(t, s, n+6, "f", 0, ErrSnapshot)
}

// TestP4NoEmptyDirectory: a directory whose last file is deleted is none any more, nor are those it lay in.
func TestP4NoEmptyDirectory(t *testing.T) {
	s := newStore(t, 200)
	n := putAll(t, s, 0, "a/b/c/d/e")
	wantDelete(t, s, n, "a/b/c/d/e", n+1, OK)
	wantDelete(t, s, n+1, "a", 0, ErrAbsent)
	wantPut(t, s, n+1, "a", "x", n+2, OK)
	wantRelease(t, s, n, OK)
	wantRelease(t, s, n+2, OK)
	wantCells(t, s, 1)
}

func TestP5Move(t *testing.T) {
	s := newStore(t, 200)
	n := putAll(t, s, 0, "a/b/c", "a/d", "e")
	rest := files{"a/b/c": "x", "a/d": "x", "e": "x"}
	for i, c := range []struct {
		from, to string
		want     files
	}{
		{"e", "f", files{"a/b/c": "x", "a/d": "x", "f": "x"}},
		{"e", "a/e", files{"a/b/c": "x", "a/d": "x", "a/e": "x"}},
		{"e", "ee/f", files{"a/b/c": "x", "a/d": "x", "ee/f": "x"}},
		{"e", "a/b/d/e/f", files{"a/b/c": "x", "a/d": "x", "a/b/d/e/f": "x"}},
		{"a", "f", files{"f/b/c": "x", "f/d": "x", "e": "x"}},
		{"a", "aa/b/c", files{"aa/b/c/b/c": "x", "aa/b/c/d": "x", "e": "x"}},
		{"a/b", "b", files{"b/c": "x", "a/d": "x", "e": "x"}},
		{"a/b/c", "a/c", files{"a/c": "x", "a/d": "x", "e": "x"}},
		{"a/b", "a/f/g", files{"a/f/g/c": "x", "a/d": "x", "e": "x"}},
	} {
		wantMove(t, s, n, c.from, c.to, n+1+i, OK)
		wantFiles(t, s, n+1+i, c.want)
		wantFiles(t, s, n, rest)
	}
}

func TestP5MoveRefused(t *testing.T) {
	s := newStore(t, 200)
	n := putAll(t, s, 0, "a/b/c", "a/d", "e")
	for _, c := range []struct {
		from, to string
		want     Errno
	}{
		{"f", "g", ErrAbsent}, {"e/f", "g", ErrAbsent}, {"a/b/c/d", "g", ErrAbsent}, {"f", "a", ErrAbsent},
		{"a", "e", ErrKind}, {"e", "a", ErrKind}, {"e", "a/d", ErrKind}, {"e", "a/b", ErrKind},
		{"a/d", "a", ErrKind}, {"a/b/c", "a/b", ErrKind}, {"a/b/c", "a", ErrKind},
		{"a", "a", ErrKind}, {"e", "e", ErrKind}, {"a/b/c", "a/b/c", ErrKind},
		{"a", "a/f", ErrKind}, {"a", "a/b/f", ErrKind}, {"a/b", "a/b/f", ErrKind}, {"e", "e/f", ErrKind},
		{"a", "e/f", ErrKind}, {"e", "a/d/f", ErrKind}, {"e", "a/d/f/g/h", ErrKind},
		{"a", "f/g/h/i", ErrPath}, {"a/b", "f/g/h/i/j", ErrPath}, {"a", "f/g/h/i/j", ErrPath},
		{"/", "f", ErrPath}, {"e", "/", ErrPath}, {"e", "f/g/h/i/j/k", ErrPath}, {"f", "", ErrPath}, {"", "f", ErrPath},
	} {
		wantMove(t, s, n, c.from, c.to, 0, c.want)
	}
	wantMove(t, s, n+1, "e", "f", 0, ErrSnapshot)
	wantMove(t, s, -1, "e", "f", 0, ErrSnapshot)
	wantMove(t, s, n, "a", "f/g/h", n+1, OK)
	wantMove(t, s, n, "a/b", "f/g/h/i", n+2, OK)
	wantMove(t, s, n, "e", "f/g/h/i/j", n+3, OK)
}

// TestP5Room: the tree between the taking away and the putting back takes no cell.
func TestP5Room(t *testing.T) {
	s := newStore(t, 6)
	n := putAll(t, s, 0, "a/b", "a/c")
	wantCells(t, s, 4)
	wantMove(t, s, n, "a/b", "a/d", n+1, OK)
	wantCells(t, s, 6)
	wantMove(t, s, n+1, "a/d", "a/b", n+2, OK)
	wantCells(t, s, 6)
	wantMove(t, s, n, "a/b", "a/e", 0, ErrFull)
	wantRelease(t, s, n+1, OK)
	wantMove(t, s, n, "a/b", "a/e", n+3, OK)
}

func TestP6Release(t *testing.T) {
	s := newStore(t, 200)
	wantPut(t, s, 0, "a", "x", 1, OK)
	wantPut(t, s, 1, "b", "y", 2, OK)
	for _, n := range []int{3, -1, math.MaxInt, math.MinInt} {
		wantRelease(t, s, n, ErrSnapshot)
	}
	wantRelease(t, s, 1, OK)
	wantRelease(t, s, 1, ErrSnapshot)
	wantPut(t, s, 1, "c", "x", 0, ErrSnapshot)
	wantDelete(t, s, 1, "a", 0, ErrSnapshot)
	wantMove(t, s, 1, "a", "b", 0, ErrSnapshot)
	wantFiles(t, s, 2, files{"a": "x", "b": "y"})
	wantRelease(t, s, 2, OK)
	wantPut(t, s, 0, "c", "x", 3, OK)
	wantRelease(t, s, 0, OK)
	wantRelease(t, s, 3, OK)
	wantCells(t, s, 0)
	wantPut(t, s, 0, "c", "x", 0, ErrSnapshot)
}

func TestP6Cells(t *testing.T) {
	s := newStore(t, 20)
	wantCells(t, s, 1)
	wantPut(t, s, 0, "src/a.c", "x", 1, OK)
	wantCells(t, s, 4)
	wantPut(t, s, 1, "lib/a.c", "x", 2, OK)
	wantCells(t, s, 5)
	wantPut(t, s, 0, "a.c", "x", 3, OK) // this root is the same tree as src
	wantCells(t, s, 5)
	wantPut(t, s, 0, "a.c", "", 4, OK)
	wantCells(t, s, 7)
	wantRelease(t, s, 1, OK)
	wantCells(t, s, 6)
	wantRelease(t, s, 3, OK)
	wantCells(t, s, 6)
	wantRelease(t, s, 2, OK)
	wantCells(t, s, 3)
	wantRelease(t, s, 0, OK)
	wantCells(t, s, 2)
}

// TestP6Room: what is released makes room; the last cell may be taken, and none beyond it.
func TestP6Room(t *testing.T) {
	s := newStore(t, 4)
	wantPut(t, s, 0, "a/b/c", "x", 0, ErrFull)
	wantPut(t, s, 0, "a/b", "x", 1, OK)
	wantPut(t, s, 0, "a/b", "y", 0, ErrFull)
	wantPut(t, s, 0, "a/b", "x", 2, OK)
	wantRelease(t, s, 1, OK)
	wantPut(t, s, 0, "a/b", "y", 0, ErrFull)
	wantRelease(t, s, 2, OK)
	wantPut(t, s, 0, "a/b", "y", 3, OK)
	wantDelete(t, s, 3, "a", 4, OK)
	wantCells(t, s, 4)
}

// TestKeptOnce: equal trees are one and the same node, and a released one leaves nothing behind.
func TestKeptOnce(t *testing.T) {
	s := newStore(t, 200)
	wantPut(t, s, 0, "a/b", "x", 1, OK)
	wantPut(t, s, 1, "c/b", "x", 2, OK)
	wantDelete(t, s, 2, "c", 3, OK)
	if s.snapshots[1] != s.snapshots[3] {
		t.Error("equal snapshots have two roots")
	}
	a, _ := look(s.snapshots[2], []string{"a"})
	c, _ := look(s.snapshots[2], []string{"c"})
	if a != c {
		t.Error("equal directories are two nodes")
	}
	for n := range 4 {
		wantRelease(t, s, n, OK)
	}
	if len(s.directories) != 0 || len(s.files) != 0 || len(s.snapshots) != 0 {
		t.Errorf("left behind: %d directories, %d data, %d snapshots", len(s.directories), len(s.files), len(s.snapshots))
	}
}
