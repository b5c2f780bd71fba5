package canopy

import (
	"fmt"
	"maps"
	"math"
	"math/rand/v2"
	"slices"
	"strings"
	"testing"
)

// wantSame asks both ways round: it tells nothing of which snapshot comes first.
func wantSame(t *testing.T, s *Store, a, b int, path string, want bool, wantErr Errno) {
	t.Helper()
	for _, p := range [][2]int{{a, b}, {b, a}} {
		if got, err := s.Same(p[0], p[1], path); got != want || err != wantErr {
			t.Errorf("Same(%d, %d, %.20q) = %v, %d, want %v, %d", p[0], p[1], path, got, err, want, wantErr)
		}
	}
}

// wantDiff asks both ways round: the other way files in one alone change their signs.
func wantDiff(t *testing.T, s *Store, a, b int, lines ...string) {
	t.Helper()
	want := ""
	for _, line := range lines {
		want += line + "\n"
	}
	if got, err := s.Diff(a, b); got != want || err != OK {
		t.Errorf("Diff(%d, %d) = %q, %d, want %q", a, b, got, err, want)
	}
	want = strings.NewReplacer("+", "-", "-", "+").Replace(want)
	if got, err := s.Diff(b, a); got != want || err != OK {
		t.Errorf("Diff(%d, %d) = %q, %d, want %q", b, a, got, err, want)
	}
}

func TestP7Example(t *testing.T) {
	s := newStore(t, 20)
	wantPut(t, s, 0, "src/a.c", "x", 1, OK)
	wantPut(t, s, 1, "lib/a.c", "x", 2, OK)
	wantDiff(t, s, 1, 2, "+lib/a.c")
	wantMove(t, s, 2, "src", "lib/src", 3, OK)
	wantDiff(t, s, 2, 3, "+lib/src/a.c", "-src/a.c")
	wantDelete(t, s, 3, "lib", 4, OK)
	wantSame(t, s, 0, 4, "/", true, OK)
}

func TestP7Same(t *testing.T) {
	s := newStore(t, 200)
	n := putAll(t, s, 0, "a/b/c", "a/d", "e")
	wantPut(t, s, n, "a/b/c", "y", n+1, OK)
	wantSame(t, s, n, n+1, "/", false, OK)
	wantSame(t, s, n, n+1, "a", false, OK)
	wantSame(t, s, n, n+1, "a/b", false, OK)
	wantSame(t, s, n, n+1, "a/b/c", false, OK)
	wantSame(t, s, n, n+1, "a/d", true, OK)
	wantSame(t, s, n, n+1, "e", true, OK)
	wantPut(t, s, n+1, "a/b/c", "x", n+2, OK)
	for _, path := range []string{"/", "a", "a/b", "a/b/c", "a/d", "e"} {
		wantSame(t, s, n, n, path, true, OK)
		wantSame(t, s, n, n+2, path, true, OK)
	}
	wantSame(t, s, 0, 0, "/", true, OK)
	wantSame(t, s, 0, n, "/", false, OK)
}

// TestP7SameElsewhere: what was made in another way, and of what was released since, is the same if it reads the same.
func TestP7SameElsewhere(t *testing.T) {
	s := newStore(t, 200)
	n := putAll(t, s, 0, "a/b/c", "f")
	wantMove(t, s, n, "a/b", "d", n+1, OK)
	wantRelease(t, s, n, OK)
	wantPut(t, s, 0, "d/c", "x", n+2, OK)
	wantSame(t, s, n+1, n+2, "d", true, OK)
	wantSame(t, s, n+1, n+2, "d/c", true, OK)
	wantSame(t, s, n+1, n+2, "/", false, OK)
	wantPut(t, s, n+2, "f", "x", n+3, OK)
	wantSame(t, s, n+1, n+3, "/", true, OK)
	wantDiff(t, s, n+1, n+3)
}

// TestP7SameKinds: a file and a directory are never the same, nor a name more and a name less.
func TestP7SameKinds(t *testing.T) {
	s := newStore(t, 200)
	wantPut(t, s, 0, "a/b", "x", 1, OK)
	wantPut(t, s, 0, "a", "x", 2, OK)
	wantPut(t, s, 1, "a/c", "x", 3, OK)
	wantPut(t, s, 0, "a/c", "x", 4, OK)
	wantPut(t, s, 0, "a", "", 5, OK)
	for a := 1; a <= 5; a++ {
		for b := a + 1; b <= 5; b++ {
			wantSame(t, s, a, b, "a", false, OK)
			wantSame(t, s, a, b, "/", false, OK)
		}
	}
	wantSame(t, s, 1, 3, "a/b", true, OK)
	wantSame(t, s, 3, 4, "a/c", true, OK)
}

// TestP7SameRefused: the errors, and which of several comes first.
func TestP7SameRefused(t *testing.T) {
	s := newStore(t, 200)
	n := putAll(t, s, 0, "a/b", "c")
	wantPut(t, s, n, "d", "x", n+1, OK)
	for _, gone := range []int{n + 2, -1, 1, math.MaxInt, math.MinInt} {
		for _, path := range []string{"/", "a/b", "e", "", "A"} {
			wantSame(t, s, n, gone, path, false, ErrSnapshot)
			wantSame(t, s, gone, gone, path, false, ErrSnapshot)
		}
	}
	for _, path := range []string{"", "//", "a/", "/a", "a//b", "A", "abcdefghi", "a/b/c/d/e/f", "a*", "\xff", " /", "/ ", strings.Repeat("/", 1<<20), strings.Repeat("a/", 1<<20)} {
		wantSame(t, s, n, n+1, path, false, ErrPath)
	}
	for _, path := range []string{"d", "e", "a/c", "a/b/c", "c/a", "a/b/c/d/e", "d/e"} {
		wantSame(t, s, n, n+1, path, false, ErrAbsent)
	}
	wantSame(t, s, n, n, "d", false, ErrAbsent)
	wantSame(t, s, n+1, n+1, "d", true, OK)
	wantSame(t, s, 0, 0, "a", false, ErrAbsent)
}

func TestP7Diff(t *testing.T) {
	s := newStore(t, 200)
	n := putAll(t, s, 0, "b/c", "b/d", "e")
	wantDiff(t, s, n, n)
	wantDiff(t, s, 0, 0)
	wantDiff(t, s, 0, n, "+b/c", "+b/d", "+e")
	wantPut(t, s, n, "b/d", "y", n+1, OK)
	wantDiff(t, s, n, n+1, "~b/d")
	wantPut(t, s, n+1, "a/b/c/d/e", "", n+2, OK)
	wantDiff(t, s, n, n+2, "+a/b/c/d/e", "~b/d")
	wantDelete(t, s, n+2, "b/c", n+3, OK)
	wantPut(t, s, n+3, "b/cc", "x", n+4, OK)
	wantDiff(t, s, n, n+4, "+a/b/c/d/e", "-b/c", "+b/cc", "~b/d")
	wantPut(t, s, n+4, "z", "z", n+5, OK)
	wantDiff(t, s, n, n+5, "+a/b/c/d/e", "-b/c", "+b/cc", "~b/d", "+z")
	wantPut(t, s, n+1, "b/d", "x", n+6, OK)
	wantDiff(t, s, n, n+6)
}

// TestP7DiffOrder: paths go by their names, so that what lies in a comes ahead of a.b, though a slash is the greater byte.
func TestP7DiffOrder(t *testing.T) {
	s := newStore(t, 200)
	order := []string{".", "0", "a/.", "a/z/..", "a/z/0", "a/z0", "a.", "a..b", "a0", "aa/a", "b"}
	mixed := slices.Clone(order)
	slices.Reverse(mixed)
	n := putAll(t, s, 0, mixed...)
	var lines []string
	for _, path := range order {
		lines = append(lines, "+"+path)
	}
	wantDiff(t, s, 0, n, lines...)
}

// TestP7DiffKinds: a path that is a file in the one and a directory in the other one is told as a file, ahead of what lies in it.
func TestP7DiffKinds(t *testing.T) {
	s := newStore(t, 200)
	n := putAll(t, s, 0, "a/b/c", "a/d", "e")
	wantDelete(t, s, n, "a", n+1, OK)
	wantPut(t, s, n+1, "a", "x", n+2, OK)
	wantDiff(t, s, n, n+2, "+a", "-a/b/c", "-a/d")
	wantPut(t, s, n+2, "a.b", "x", n+3, OK)
	wantDiff(t, s, n, n+3, "+a", "-a/b/c", "-a/d", "+a.b")
	wantDelete(t, s, n, "a/b", n+4, OK)
	wantPut(t, s, n+4, "a/b", "x", n+5, OK)
	wantDiff(t, s, n, n+5, "+a/b", "-a/b/c")
	wantDiff(t, s, n+2, n+5, "-a", "+a/b", "+a/d")
}

// TestP7DiffMany: as many lines as there may be, with the longest paths.
func TestP7DiffMany(t *testing.T) {
	s := newStore(t, 200)
	deep := "abcdefgh/abcdefgh/abcdefgh/abcdefgh/"
	var here, there, lines []string
	for i := range 20 {
		here = append(here, fmt.Sprintf("%sabcdef%d", deep, 10+i))
		there = append(there, fmt.Sprintf("%sabcdef%d", deep, 30+i))
	}
	for _, path := range here {
		lines = append(lines, "-"+path)
	}
	for _, path := range there {
		lines = append(lines, "+"+path)
	}
	wantDiff(t, s, putAll(t, s, 0, here...), putAll(t, s, 0, there...), lines...)
}

func TestP7DiffRefused(t *testing.T) {
	s := newStore(t, 200)
	wantPut(t, s, 0, "a", "x", 1, OK)
	wantPut(t, s, 1, "b", "x", 2, OK)
	wantRelease(t, s, 1, OK)
	for _, p := range [][2]int{{1, 0}, {0, 1}, {1, 1}, {3, 3}, {0, -1}, {-1, 2}, {math.MaxInt, 0}, {0, math.MinInt}} {
		if got, err := s.Diff(p[0], p[1]); got != "" || err != ErrSnapshot {
			t.Errorf("Diff(%d, %d) = %q, %d, want nothing and %d", p[0], p[1], got, err, ErrSnapshot)
		}
	}
	wantDiff(t, s, 0, 2, "+a", "+b")
}

// TestP7EqualSkipped: Diff goes into no pair of equal trees: here one that nobody could go through, since it tells of more entries than it has.
func TestP7EqualSkipped(t *testing.T) {
	x, y := &file{data: "x"}, &file{data: "y"}
	whole := &directory{}
	for _, path := range someFiles(maxFiles) {
		whole.list = whole.list.with(path, x)
	}
	whole.list.count++
	tree := func(n node) entry {
		inner := &directory{list: listing{}.with("whole", whole).with("f", n)}
		return entry{node: &directory{list: listing{}.with("whole", whole).with("d", inner)}}
	}
	var got []string
	for path, m := range changes(tree(x), tree(y), "") {
		got = append(got, string(rune(m))+path)
	}
	if want := []string{"~d/f"}; !slices.Equal(got, want) {
		t.Errorf("changes = %q, want %q", got, want)
	}
	for path := range changes(entry{node: whole}, entry{node: whole}, "") {
		t.Errorf("changes of a tree against itself tells %q", path)
	}
}

// TestP7Stopped: whoever goes through the changes may stop at any of them.
func TestP7Stopped(t *testing.T) {
	s := newStore(t, 200)
	n := putAll(t, s, 0, "a/b/c", "a/d", "e", "f/g")
	m := putAll(t, s, 0, "a/b", "f/g/h")
	want := []string{"a/b", "a/b/c", "a/d", "e", "f/g", "f/g/h"}
	for stop := range len(want) {
		var got []string
		for path := range changes(entry{node: s.snapshots[n]}, entry{node: s.snapshots[m]}, "") {
			got = append(got, path)
			if len(got) > stop {
				break
			}
		}
		if !slices.Equal(got, want[:stop+1]) {
			t.Errorf("the first %d changes are %q, want %q", stop+1, got, want[:stop+1])
		}
	}
}

func (m *model) same(a, b int, path string) (bool, Errno) {
	first, second := m.snapshots[a], m.snapshots[b]
	switch {
	case first == nil || second == nil:
		return false, ErrSnapshot
	case path == "/":
		return maps.Equal(first, second), OK
	case !modelIsPath(path):
		return false, ErrPath
	case !isThere(first, path) || !isThere(second, path):
		return false, ErrAbsent
	}
	return maps.Equal(filesAt(first, path), filesAt(second, path)), OK
}

// filesAt answers the file path, or the files in the directory path.
func filesAt(files map[string]string, path string) map[string]string {
	at := maps.Clone(files)
	maps.DeleteFunc(at, func(p, _ string) bool { return p != path && !isBeginning(path, p) })
	return at
}

func (m *model) diff(a, b int) (string, Errno) {
	first, second := m.snapshots[a], m.snapshots[b]
	if first == nil || second == nil {
		return "", ErrSnapshot
	}
	all := maps.Clone(first)
	maps.Copy(all, second)
	text := ""
	for _, path := range slices.SortedFunc(maps.Keys(all), modelOrder) {
		old, inFirst := first[path]
		data, inSecond := second[path]
		switch {
		case inFirst && !inSecond:
			text += "-" + path + "\n"
		case !inFirst && inSecond:
			text += "+" + path + "\n"
		case old != data:
			text += "~" + path + "\n"
		}
	}
	return text, OK
}

func modelOrder(a, b string) int { return slices.Compare(strings.Split(a, "/"), strings.Split(b, "/")) }

// compare asks both of two snapshots and tells where they differ.
func compare(r *rand.Rand, s *Store, m *model) string {
	a, b := someSnapshot(r, m), someSnapshot(r, m)
	path := somePathOf(r, m.snapshots[a])
	same, sameErr := s.Same(a, b, path)
	if want, wantErr := m.same(a, b, path); same != want || sameErr != wantErr {
		return fmt.Sprintf("Same(%d, %d, %q) = %v, %d, want %v, %d", a, b, path, same, sameErr, want, wantErr)
	}
	diff, diffErr := s.Diff(a, b)
	if want, wantErr := m.diff(a, b); diff != want || diffErr != wantErr {
		return fmt.Sprintf("Diff(%d, %d) = %q, %d, want %q, %d", a, b, diff, diffErr, want, wantErr)
	}
	return ""
}
