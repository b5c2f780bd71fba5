package canopy

import (
	"fmt"
	"maps"
	"math"
	"math/rand/v2"
	"regexp"
	"slices"
	"strings"
	"testing"
)

func wantAsk(t *testing.T, s *Store, snapshot int, question, want string, wantErr Errno) {
	t.Helper()
	if got, err := s.Ask(snapshot, question); got != want || err != wantErr {
		t.Errorf("Ask(%d, %.70q) = %q, %d, want %q, %d", snapshot, question, got, err, want, wantErr)
	}
}

// wantGlob asks for a pattern and wants these paths.
func wantGlob(t *testing.T, s *Store, snapshot int, pattern string, paths ...string) {
	t.Helper()
	want := ""
	for _, path := range paths {
		want += path + "\n"
	}
	wantAsk(t, s, snapshot, "glob "+pattern, want, OK)
}

func TestP8Example(t *testing.T) {
	s := newStore(t, 20)
	wantPut(t, s, 0, "src/a.c", "x", 1, OK)
	wantPut(t, s, 1, "lib/a.c", "x", 2, OK)
	wantAsk(t, s, 2, "exists src", "directory", OK)
	wantAsk(t, s, 2, "list /", ":lib/ src/", OK)
	wantAsk(t, s, 2, "read src/a.c", "=x", OK)
	wantGlob(t, s, 2, "**/*.c", "lib/a.c", "src/a.c")
	wantAsk(t, s, 2, "first a.c inc src lib", "src/a.c", OK)
}

func TestP8Exists(t *testing.T) {
	s := newStore(t, 200)
	n := putAll(t, s, 0, "a/b/c/d/e", "a/f", "..")
	for path, want := range map[string]string{
		"/": "directory", "a": "directory", "a/b": "directory", "a/b/c/d": "directory",
		"a/b/c/d/e": "file", "a/f": "file", "..": "file",
		"b": "no", "f": "no", ".": "no", "a/b/c/e": "no", "a/f/g": "no", "../a": "no", "aa": "no", "a.": "no",
	} {
		wantAsk(t, s, n, "exists "+path, want, OK)
	}
	wantAsk(t, s, 0, "exists /", "directory", OK)
	wantAsk(t, s, 0, "exists a", "no", OK)
}

func TestP8List(t *testing.T) {
	s := newStore(t, 200)
	n := putAll(t, s, 0, "b/d/e", "b/c", "a", "b.", "b0/z", "..")
	for path, want := range map[string]string{
		"/": ":.. a b/ b. b0/", "b": ":c d/", "b/d": ":e", "b0": ":z",
		"a": "no", "b/c": "no", "b/d/e": "no", "c": "no", "b/d/f": "no", "a/b": "no",
	} {
		wantAsk(t, s, n, "list "+path, want, OK)
	}
	wantAsk(t, s, 0, "list /", ":", OK)
	wantAsk(t, s, 0, "list a", "no", OK)
}

// TestP8ListOrder: names go by themselves, so that a directory comes ahead of a name that it begins, whatever stands behind it.
func TestP8ListOrder(t *testing.T) {
	s := newStore(t, 200)
	n := putAll(t, s, 0, "z", "aa", "a0/x", "a./x", "a/x", "0", ".")
	wantAsk(t, s, n, "list /", ":. 0 a/ a./ a0/ aa z", OK)
}

func TestP8Read(t *testing.T) {
	s := newStore(t, 200)
	long := strings.Repeat("x", 30)
	wantPut(t, s, 0, "a", "", 1, OK)
	wantPut(t, s, 1, "b/c", long, 2, OK)
	wantPut(t, s, 2, "d", "no", 3, OK)
	wantPut(t, s, 3, "e", "=\n\x00\xff", 4, OK)
	wantPut(t, s, 4, "d", "yes", 5, OK)
	for path, want := range map[string]string{
		"a": "=", "b/c": "=" + long, "d": "=no", "e": "==\n\x00\xff",
		"/": "no", "b": "no", "c": "no", "b/d": "no", "a/b": "no",
	} {
		wantAsk(t, s, 4, "read "+path, want, OK)
	}
	wantAsk(t, s, 5, "read d", "=yes", OK)
	wantAsk(t, s, 0, "read a", "no", OK)
}

// TestP8GlobNames: how one part spells one name.
func TestP8GlobNames(t *testing.T) {
	s := newStore(t, 200)
	n := putAll(t, s, 0, "a", "ab", "abc", "a.c", "aab", "b", "abcdefgh", "aaaaaaaa", "..", "d/a")
	wantGlob(t, s, n, "a", "a")
	wantGlob(t, s, n, "c")
	wantGlob(t, s, n, "d")
	wantGlob(t, s, n, "?", "a", "b")
	wantGlob(t, s, n, "??", "..", "ab")
	wantGlob(t, s, n, "????????", "aaaaaaaa", "abcdefgh")
	wantGlob(t, s, n, "*", "..", "a", "a.c", "aaaaaaaa", "aab", "ab", "abc", "abcdefgh", "b")
	wantGlob(t, s, n, "a*", "a", "a.c", "aaaaaaaa", "aab", "ab", "abc", "abcdefgh")
	wantGlob(t, s, n, "*b", "aab", "ab", "b")
	wantGlob(t, s, n, "*b*", "aab", "ab", "abc", "abcdefgh", "b")
	wantGlob(t, s, n, "a*c", "a.c", "abc")
	wantGlob(t, s, n, "a.c", "a.c")
	wantGlob(t, s, n, "a?c", "a.c", "abc")
	wantGlob(t, s, n, "*.*", "..", "a.c")
	wantGlob(t, s, n, "?*b", "aab", "ab")
	wantGlob(t, s, n, "*?b", "aab", "ab")
	wantGlob(t, s, n, "*a*b", "aab", "ab")
	wantGlob(t, s, n, "a*a*a*a", "aaaaaaaa")
	wantGlob(t, s, n, "*a*a*a*b")
	wantGlob(t, s, n, "*?*?*?*?", "aaaaaaaa", "abcdefgh")
	wantGlob(t, s, n, "abcdefg*", "abcdefgh")
	wantGlob(t, s, n, "abcdefg?", "abcdefgh")
	wantGlob(t, s, 0, "*")
}

// TestP8GlobPaths: how the parts take the names of a path.
func TestP8GlobPaths(t *testing.T) {
	s := newStore(t, 200)
	n := putAll(t, s, 0, "a/b/c/d/e", "a/b/c.", "a/c", "b/a/c", "c", "a.c")
	all := []string{"a/b/c/d/e", "a/b/c.", "a/c", "a.c", "b/a/c", "c"}
	for _, pattern := range []string{"**", "**/**", "**/**/**/**/**", "**/*", "*/**", "**/?*"} {
		wantGlob(t, s, n, pattern, all...)
	}
	wantGlob(t, s, n, "*", "a.c", "c")
	wantGlob(t, s, n, "*/*", "a/c")
	wantGlob(t, s, n, "*/*/*/*/*", "a/b/c/d/e")
	wantGlob(t, s, n, "*/*/**", "a/b/c/d/e", "a/b/c.", "a/c", "b/a/c")
	wantGlob(t, s, n, "a*c", "a.c")
	wantGlob(t, s, n, "a?c", "a.c")
	wantGlob(t, s, n, "a/**", "a/b/c/d/e", "a/b/c.", "a/c")
	wantGlob(t, s, n, "a/b")
	wantGlob(t, s, n, "**/c", "a/c", "b/a/c", "c")
	wantGlob(t, s, n, "c/**", "c")
	wantGlob(t, s, n, "**/c/**", "a/b/c/d/e", "a/c", "b/a/c", "c")
	wantGlob(t, s, n, "**/a/**/c", "a/c", "b/a/c")
	wantGlob(t, s, n, "**/a/*", "a/c", "b/a/c")
	wantGlob(t, s, n, "a/**/e", "a/b/c/d/e")
	wantGlob(t, s, n, "a/**/d")
	wantGlob(t, s, n, "**/c.", "a/b/c.")
	wantGlob(t, s, n, "a/*/*/*/*", "a/b/c/d/e")
	wantGlob(t, s, n, "a/*/c/**/e", "a/b/c/d/e")
	wantGlob(t, s, n, "*/c", "a/c")
	wantGlob(t, s, 0, "**")
}

// TestP8GlobMany: as many files as there may be, with the longest paths and patterns that can be laid in many ways.
func TestP8GlobMany(t *testing.T) {
	s := newStore(t, 200)
	var paths []string
	for i := range 20 {
		paths = append(paths, fmt.Sprintf("%saaaaaa%d", strings.Repeat("aaaaaaaa/", 4), 10+i))
	}
	n := putAll(t, s, 0, paths...)
	wantGlob(t, s, n, "**", paths...)
	wantGlob(t, s, n, "*a*a*a*a/*a*a*a*a/*a*a*a*a/*a*a*a*a/*a*a*a*a")
	wantGlob(t, s, n, "*a*a*a*a/*a*a*a*a/*a*a*a*a/*a*a*a*a/*a*a*a*?", paths...)
	wantGlob(t, s, n, "**/**/**/**/b")
}

func TestP8First(t *testing.T) {
	s := newStore(t, 200)
	n := putAll(t, s, 0, "a/x", "b/x", "b/c/d/e/x", "x", "y/x/z", "f")
	for question, want := range map[string]string{
		"x a b": "a/x", "x b a": "b/x", "x / a": "x", "x a /": "a/x", "x /": "x",
		"x c d b": "b/x", "x y b": "b/x", "x y": "no", "z y/x": "y/x/z", "x b/c/d/e": "b/c/d/e/x",
		"x b/c": "no", "y / b": "no", "x f a": "a/x", "x f": "no", "x a/x b": "b/x", "f /": "f", "x b b": "b/x",
		"x b/c/d/e/x": "no", "x b/c/d/e/x a": "a/x", "x q/q/q/q/q": "no", "q / a b": "no",
	} {
		wantAsk(t, s, n, "first "+question, want, OK)
	}
	wantAsk(t, s, 0, "first x / a", "no", OK)
}

func TestP8Snapshots(t *testing.T) {
	s := newStore(t, 200)
	wantPut(t, s, 0, "a", "x", 1, OK)
	wantMove(t, s, 1, "a", "b/a", 2, OK)
	wantRelease(t, s, 1, OK)
	for _, n := range []int{1, 3, -1, math.MaxInt, math.MinInt} {
		wantAsk(t, s, n, "exists a", "", ErrSnapshot)
	}
	wantAsk(t, s, 0, "exists b", "no", OK)
	wantAsk(t, s, 2, "exists b", "directory", OK)
	wantAsk(t, s, 2, "exists a", "no", OK)
}

func TestP8Long(t *testing.T) {
	s := newStore(t, 200)
	right := "first a" + strings.Repeat(" abcdefgh", 5) + " abcdefg"
	if len(right) != 60 {
		t.Fatalf("%d bytes, want 60", len(right))
	}
	wantAsk(t, s, 0, right, "no", OK)
	wantAsk(t, s, 0, right+"h", "", ErrLong)
	wantAsk(t, s, 0, strings.Repeat("x", 60), "", ErrQuestion)
	wantAsk(t, s, 0, strings.Repeat("x", 61), "", ErrLong)
	wantAsk(t, s, 0, strings.Repeat(" ", 60), "", ErrQuestion)
	wantAsk(t, s, 0, strings.Repeat(" ", 61), "", ErrLong)
	wantAsk(t, s, 0, "exists "+strings.Repeat("a", 53), "", ErrPath)
	wantAsk(t, s, 0, "exists "+strings.Repeat("a", 54), "", ErrLong)
	wantAsk(t, s, 0, "glob "+strings.Repeat("a", 55), "", ErrPattern)
	wantAsk(t, s, 0, "glob "+strings.Repeat("a", 56), "", ErrLong)
	wantAsk(t, s, 0, strings.Repeat("é", 30), "", ErrQuestion)
	wantAsk(t, s, 0, strings.Repeat("é", 30)+"x", "", ErrLong)
	wantAsk(t, s, 0, strings.Repeat("first a ", 1<<20), "", ErrLong)
}

func TestP8NoQuestion(t *testing.T) {
	s := newStore(t, 200)
	for _, text := range []string{
		"", " ", "  ", "a", "/", "exists", "list", "read", "glob", "first",
		"exists ", " exists a", "exists  a", "exists a ", "exists a b", "list / /", "read a b", "glob a b",
		"first a", "first a ", "first  a", "first a  b", "first a b ", " first a b", "first a b  c",
		"Exists a", "exist a", "existsa", "exists\ta", "exists\na", "LIST /", "stat a", "exists/ a", "firsts a b",
		"\x00", "\xff \xff", "é é", "exists\u00a0a", "glob\t*", "read=a",
	} {
		wantAsk(t, s, 0, text, "", ErrQuestion)
	}
}

func TestP8Paths(t *testing.T) {
	s := newStore(t, 200)
	wrong := []string{"//", "a/", "/a", "a//b", "a/b/c/d/e/f", "abcdefghi", "A", "a*", "?", "**", "a\n", "a\t", "\x00", "\xff", "é", "a-b", "a/é"}
	for _, path := range wrong {
		for _, kind := range []string{"exists ", "list ", "read ", "first a ", "first a b / ", "first a b/c "} {
			wantAsk(t, s, 0, kind+path, "", ErrPath)
		}
		wantAsk(t, s, 0, "first a "+path+" b", "", ErrPath)
		wantAsk(t, s, 0, "first "+path+" a", "", ErrPath)
	}
	wantAsk(t, s, 0, "first / a", "", ErrPath)
	wantAsk(t, s, 0, "first a/b a", "", ErrPath)
	for _, path := range []string{"/", "..", "0", "a/b/c/d/e", "abcdefgh/abcdefgh/abcdefgh/abcdefgh/abcdefgh"} {
		for _, kind := range []string{"exists ", "list ", "read ", "first a ", "first . b / "} {
			if got, err := s.Ask(0, kind+path); err != OK || got == "" {
				t.Errorf("Ask(0, %q) = %q, %d", kind+path, got, err)
			}
		}
	}
}

func TestP8Patterns(t *testing.T) {
	s := newStore(t, 200)
	right := []string{"a", "*", "?", "**", "*a", "a*", "*a*", "?*", "*?", "*?*?*?*?", "abcdefgh", "????????", "a/*/**/?/..", "**/**/**/**/**", "**/a", "a/**", "*a*b*c*d/*a*b*c*d/*a*b*c*d/*a*b*c*d/*a*b*c*d"}
	for _, pattern := range right {
		wantAsk(t, s, 0, "glob "+pattern, "", OK)
	}
	wrong := []string{"/", "//", "/a", "a/", "a//b", "**/", "/**", "***", "****", "a**", "**a", "a**b", "?**", "**?", "a/**b", "**/***", "abcdefghi", "*abcdefgh", "?????????", "a/b/c/d/e/f", "**/**/**/**/**/**", "A", "[a]", "{a}", "a-b", "\\*", "a\n", "\x00", "\xff", "é", "a/+", "!"}
	for _, pattern := range wrong {
		wantAsk(t, s, 0, "glob "+pattern, "", ErrPattern)
	}
}

// TestP1FirstErrorOfAsk: several errors apply at once; they are mended one by one, in the promise's order.
func TestP1FirstErrorOfAsk(t *testing.T) {
	s := newStore(t, 20)
	long := strings.Repeat("A", 61)
	wantAsk(t, s, 1, "glob  "+long, "", ErrSnapshot)
	wantAsk(t, s, 0, "glob  "+long, "", ErrLong)
	wantAsk(t, s, 0, "exists "+long, "", ErrLong)
	wantAsk(t, s, 0, "exists A B", "", ErrQuestion)
	wantAsk(t, s, 0, "exists A ", "", ErrQuestion)
	wantAsk(t, s, 0, "first A", "", ErrQuestion)
	wantAsk(t, s, 0, "first A  B", "", ErrQuestion)
	wantAsk(t, s, 0, "glob A B", "", ErrQuestion)
	wantAsk(t, s, 0, " glob A", "", ErrQuestion)
	wantAsk(t, s, 0, "exists A", "", ErrPath)
	wantAsk(t, s, 0, "glob A", "", ErrPattern)
}

// TestP8NothingChanges: a question leaves the store as it is.
func TestP8NothingChanges(t *testing.T) {
	s := newStore(t, 5)
	wantPut(t, s, 0, "a/b", "x", 1, OK)
	for range 50 {
		wantAsk(t, s, 1, "first b c a", "a/b", OK)
		wantAsk(t, s, 1, "list a", ":b", OK)
		wantGlob(t, s, 1, "**", "a/b")
		wantAsk(t, s, 1, "glob A", "", ErrPattern)
		wantAsk(t, s, 2, "list /", "", ErrSnapshot)
	}
	wantCells(t, s, 4)
	wantFiles(t, s, 1, files{"a/b": "x"})
	wantPut(t, s, 1, "c", "x", 2, OK)
}

var (
	questionShape = regexp.MustCompile(`^((exists|list|read|glob) [^ ]+|first [^ ]+( [^ ]+)+)$`)
	partShape     = regexp.MustCompile(`^(\*\*|(\*?[a-z0-9.?])+\*?|\*)$`)
)

// modelFault tells the question's own error, paths and patterns being texts.
func modelFault(question string) Errno {
	words := strings.Split(question, " ")
	switch {
	case len(question) > 60:
		return ErrLong
	case !questionShape.MatchString(question):
		return ErrQuestion
	case words[0] == "glob" && !modelIsPattern(words[1]):
		return ErrPattern
	case words[0] == "first" && !(modelIsPath(words[1]) && !strings.Contains(words[1], "/")):
		return ErrPath
	}
	for _, word := range words[1:] {
		if words[0] != "glob" && word != "/" && !modelIsPath(word) {
			return ErrPath
		}
	}
	return OK
}

// ask answers as the model's map of a snapshot tells.
func (m *model) ask(snapshot int, question string) (string, Errno) {
	files := m.snapshots[snapshot]
	if files == nil {
		return "", ErrSnapshot
	}
	if err := modelFault(question); err != OK {
		return "", err
	}
	words := strings.Split(question, " ")
	switch words[0] {
	case "glob":
		return modelGlob(files, words[1]), OK
	case "first":
		return modelFirst(files, words[1], words[2:]), OK
	}
	return modelTell(files, words[0], words[1]), OK
}

func modelIsPattern(text string) bool {
	parts := strings.Split(text, "/")
	for _, part := range parts {
		if len(part) > 8 || !partShape.MatchString(part) {
			return false
		}
	}
	return len(parts) <= 5
}

func modelTell(files map[string]string, kind, path string) string {
	data, isFile := files[path]
	isDir := path == "/" || isDirectory(files, path)
	switch {
	case kind == "exists" && isFile:
		return "file"
	case kind == "exists" && isDir:
		return "directory"
	case kind == "read" && isFile:
		return "=" + data
	case kind == "list" && isDir:
		return ":" + strings.Join(modelNames(files, strings.TrimPrefix(path+"/", "//")), " ")
	}
	return "no"
}

// modelNames answers what lies behind the start in the paths, in the order of names.
func modelNames(files map[string]string, start string) []string {
	names := map[string]bool{}
	for p := range files {
		if rest, inside := strings.CutPrefix(p, start); inside {
			name, _, deeper := strings.Cut(rest, "/")
			if deeper {
				name += "/"
			}
			names[name] = true
		}
	}
	return slices.SortedFunc(maps.Keys(names), modelOrder)
}

func modelGlob(files map[string]string, pattern string) string {
	spelling := strings.NewReplacer("**", `([^/]+/)*`, "*", `[^/]*`, "?", `[^/]`, ".", `\.`)
	text := "^"
	for _, part := range strings.Split(pattern, "/") {
		text += spelling.Replace(part)
		if part != "**" {
			text += "/"
		}
	}
	right := regexp.MustCompile(text + "$")
	answer := ""
	for _, path := range slices.SortedFunc(maps.Keys(files), modelOrder) {
		if right.MatchString(path + "/") {
			answer += path + "\n"
		}
	}
	return answer
}

func modelFirst(files map[string]string, name string, directories []string) string {
	for _, d := range directories {
		path := strings.TrimPrefix(d+"/"+name, "//")
		if _, there := files[path]; there {
			return path
		}
	}
	return "no"
}

var someParts = []string{"**", "**", "*", "?", "a*", "*c", "?.c", "*.*", "b", "*b*", "f?", "f1*", "a?*", "????????", "***", "A", "", "*?*?*?*??"}

func somePattern(r *rand.Rand) string {
	pattern := pick(r, someParts)
	for r.IntN(2) == 0 {
		pattern += "/" + pick(r, someParts)
	}
	return pattern
}

// somePlace is often a path that is there, at times the root.
func somePlace(r *rand.Rand, files map[string]string) string {
	if r.IntN(8) == 0 {
		return "/"
	}
	return somePathOf(r, files)
}

// someFirst asks for a name that is often there, mostly in directories of files.
func someFirst(r *rand.Rand, files map[string]string) string {
	path := somePathOf(r, files)
	question := "first " + path[strings.LastIndex(path, "/")+1:]
	for range r.IntN(4) {
		question += " " + pick(r, []string{somePlace(r, files), path, "/"})
	}
	if last := strings.LastIndex(path, "/"); last > 0 {
		question += " " + path[:last]
	}
	return question
}

func someQuestion(r *rand.Rand, files map[string]string) string {
	var question string
	switch r.IntN(5) {
	case 0:
		question = "exists " + somePlace(r, files)
	case 1:
		question = "list " + somePlace(r, files)
	case 2:
		question = "read " + somePlace(r, files)
	case 3:
		question = "glob " + somePattern(r)
	case 4:
		question = someFirst(r, files)
	}
	if r.IntN(30) == 0 {
		return pick(r, []string{" ", "x", "first", ""}) + question + pick(r, []string{" ", " /", "\n", ""})
	}
	return question
}

// inquire asks both a question and tells where they differ.
func inquire(r *rand.Rand, s *Store, m *model) string {
	snapshot := someSnapshot(r, m)
	question := someQuestion(r, m.snapshots[snapshot])
	got, err := s.Ask(snapshot, question)
	if want, wantErr := m.ask(snapshot, question); got != want || err != wantErr {
		return fmt.Sprintf("Ask(%d, %q) = %q, %d, want %q, %d", snapshot, question, got, err, want, wantErr)
	}
	return ""
}
