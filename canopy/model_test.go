package canopy

import (
	"fmt"
	"maps"
	"math/rand/v2"
	"slices"
	"strings"
	"testing"
)

// model does what the document says in the plainest way: a snapshot is a map
// from paths to data, copied whole at each edit.
type model struct {
	room, made int
	snapshots  map[int]map[string]string
	rules      map[string]*modelRule
}

func newModel(room int) *model {
	return &model{room: room, made: 1, snapshots: map[int]map[string]string{0: {}}, rules: map[string]*modelRule{}}
}

// crowd makes a snapshot with nearly as many files as there may be, if there is room.
func crowd(s *Store, m *model) {
	for i := range 17 {
		path := fmt.Sprintf("b/f%d", i)
		s.Put(i, path, "x")
		m.put(i, path, "x")
		s.Release(i)
		m.release(i)
	}
}

func modelIsPath(path string) bool {
	names := strings.Split(path, "/")
	for _, name := range names {
		if len(name) < 1 || len(name) > 8 || strings.Trim(name, "abcdefghijklmnopqrstuvwxyz0123456789.") != "" {
			return false
		}
	}
	return len(names) <= 5
}

func isBeginning(start, path string) bool { return strings.HasPrefix(path, start+"/") }

func isDirectory(files map[string]string, path string) bool {
	for p := range files {
		if isBeginning(path, p) {
			return true
		}
	}
	return false
}

func isBlocked(files map[string]string, path string) bool {
	for p := range files {
		if isBeginning(p, path) {
			return true
		}
	}
	return false
}

func isThere(files map[string]string, path string) bool {
	_, file := files[path]
	return file || isDirectory(files, path)
}

// treeText spells what lies in the directory (with "" for the root), and notes it and all below it as cells.
func treeText(files map[string]string, directory string, cells map[string]bool) string {
	inside := map[string]bool{}
	for p := range files {
		if directory == "" || isBeginning(directory, p) {
			name, _, _ := strings.Cut(strings.TrimPrefix(strings.TrimPrefix(p, directory), "/"), "/")
			inside[name] = true
		}
	}
	text := "("
	for _, name := range slices.Sorted(maps.Keys(inside)) {
		path := strings.TrimPrefix(directory+"/"+name, "/")
		if data, ok := files[path]; ok {
			cell := fmt.Sprintf("data%q", data)
			cells[cell] = true
			text += name + "=" + cell + ";"
		} else {
			text += name + "=" + treeText(files, path, cells) + ";"
		}
	}
	text += ")"
	cells[text] = true
	return text
}

func (m *model) cells() int {
	all := map[string]bool{}
	for _, files := range m.snapshots {
		treeText(files, "", all)
	}
	return len(all)
}

func (m *model) add(files map[string]string) (int, Errno) {
	if len(m.snapshots) >= 12 {
		return 0, ErrMany
	}
	m.snapshots[m.made] = files
	if m.cells() > m.room {
		delete(m.snapshots, m.made)
		return 0, ErrFull
	}
	m.made++
	return m.made - 1, OK
}

func (m *model) put(snapshot int, path, data string) (int, Errno) {
	files, ok := m.snapshots[snapshot]
	switch {
	case !ok:
		return 0, ErrSnapshot
	case !modelIsPath(path):
		return 0, ErrPath
	case len(data) > 30:
		return 0, ErrLong
	case isDirectory(files, path) || isBlocked(files, path):
		return 0, ErrKind
	case !isThere(files, path) && len(files) >= 20:
		return 0, ErrMany
	}
	next := maps.Clone(files)
	next[path] = data
	return m.add(next)
}

func (m *model) delete(snapshot int, path string) (int, Errno) {
	files, ok := m.snapshots[snapshot]
	switch {
	case !ok:
		return 0, ErrSnapshot
	case !modelIsPath(path):
		return 0, ErrPath
	case !isThere(files, path):
		return 0, ErrAbsent
	}
	next := maps.Clone(files)
	maps.DeleteFunc(next, func(p, _ string) bool { return p == path || isBeginning(path, p) })
	return m.add(next)
}

func (m *model) move(snapshot int, from, to string) (int, Errno) {
	files, ok := m.snapshots[snapshot]
	switch {
	case !ok:
		return 0, ErrSnapshot
	case !modelIsPath(from) || !modelIsPath(to):
		return 0, ErrPath
	case !isThere(files, from):
		return 0, ErrAbsent
	case isThere(files, to) || from == to || isBeginning(from, to) || isBlocked(files, to):
		return 0, ErrKind
	}
	next := map[string]string{}
	for p, data := range files {
		if p == from || isBeginning(from, p) {
			p = to + strings.TrimPrefix(p, from)
		}
		if !modelIsPath(p) {
			return 0, ErrPath
		}
		next[p] = data
	}
	return m.add(next)
}

func (m *model) release(snapshot int) Errno {
	if _, ok := m.snapshots[snapshot]; !ok {
		return ErrSnapshot
	}
	delete(m.snapshots, snapshot)
	return OK
}

// sources of inputs: few enough that calls often meet what others have made.
var (
	someNames = []string{"a", "b", "c", "a.c", "..", "abcdefgh"}
	someTexts = []string{"", "x", "y", "a", "hello\n", strings.Repeat("x", 30), strings.Repeat("x", 31)}
	noPaths   = []string{"", "/", "a/", "/a", "a//b", "A", "abcdefghi", "a/b/c/d/e/f", "a*", "\xff"}
)

func pick(r *rand.Rand, texts []string) string { return texts[r.IntN(len(texts))] }

func somePath(r *rand.Rand) string {
	if r.IntN(20) == 0 {
		return pick(r, noPaths)
	}
	path := pick(r, someNames)
	for r.IntN(2) == 0 {
		path += "/" + pick(r, someNames)
	}
	return path
}

// someSnapshot is mostly one that is there, at times one that is not.
func someSnapshot(r *rand.Rand, m *model) int {
	there := slices.Sorted(maps.Keys(m.snapshots))
	if len(there) == 0 || r.IntN(20) == 0 {
		return r.IntN(m.made+3) - 1
	}
	return there[max(r.IntN(len(there)), r.IntN(len(there)))]
}

// somePathOf is often one that is there, or a beginning of it.
func somePathOf(r *rand.Rand, files map[string]string) string {
	if len(files) == 0 || r.IntN(3) == 0 {
		return somePath(r)
	}
	names := strings.Split(pick(r, slices.Sorted(maps.Keys(files))), "/")
	return strings.Join(names[:len(names)-r.IntN(min(2, len(names)))], "/")
}

// step makes one call of both and tells where they differ.
func step(r *rand.Rand, s *Store, m *model) string {
	snapshot := someSnapshot(r, m)
	path, there := somePath(r), somePathOf(r, m.snapshots[snapshot])
	var call string
	var got, want int
	var gotErr, wantErr Errno
	switch r.IntN(8) {
	case 0, 1, 2, 3:
		data := pick(r, someTexts)
		call = fmt.Sprintf("Put(%d, %q, %q)", snapshot, path, data)
		got, gotErr = s.Put(snapshot, path, data)
		want, wantErr = m.put(snapshot, path, data)
	case 4:
		call = fmt.Sprintf("Delete(%d, %q)", snapshot, there)
		got, gotErr = s.Delete(snapshot, there)
		want, wantErr = m.delete(snapshot, there)
	case 5:
		to := somePath(r)
		call = fmt.Sprintf("Move(%d, %q, %q)", snapshot, there, to)
		got, gotErr = s.Move(snapshot, there, to)
		want, wantErr = m.move(snapshot, there, to)
	default:
		// The newest ones live on, so that snapshots with many files come about.
		if len(m.snapshots) > 1+r.IntN(12) {
			snapshot = slices.Min(slices.Collect(maps.Keys(m.snapshots)))
		} else if r.IntN(30) > 0 {
			return ""
		}
		call = fmt.Sprintf("Release(%d)", snapshot)
		gotErr, wantErr = s.Release(snapshot), m.release(snapshot)
	}
	if got != want || gotErr != wantErr {
		return fmt.Sprintf("%s = %d, %d, want %d, %d", call, got, gotErr, want, wantErr)
	}
	if fault := difference(s, m); fault != "" {
		return "after " + call + ": " + fault
	}
	return ""
}

func difference(s *Store, m *model) string {
	if got, want := s.Cells(), m.cells(); got != want {
		return fmt.Sprintf("Cells = %d, want %d", got, want)
	}
	if len(s.snapshots) != len(m.snapshots) {
		return fmt.Sprintf("%d snapshots, want %d", len(s.snapshots), len(m.snapshots))
	}
	for n, want := range m.snapshots {
		if got := filesOf(s, n); !maps.Equal(got, want) {
			return fmt.Sprintf("snapshot %d has %q, want %q", n, got, want)
		}
	}
	return ""
}

// TestModel makes long runs of calls, right ones and wrong ones, and holds each answer and all
// snapshots against the model (P1, P4 to P10).
func TestModel(t *testing.T) {
	for seed := range uint64(48) {
		r := rand.New(rand.NewPCG(seed, 1))
		room := []int{1, 5, 12, 40, 80, 200}[seed/2%6]
		s, m := newStore(t, room), newModel(room)
		if seed%2 == 1 {
			crowd(s, m)
		}
		for range 800 {
			if len(m.snapshots) == 0 {
				s, m = newStore(t, room), newModel(room)
			}
			if fault := compare(r, s, m); fault != "" {
				t.Fatalf("seed %d: %s", seed, fault)
			}
			if fault := inquire(r, s, m); fault != "" {
				t.Fatalf("seed %d: %s", seed, fault)
			}
			if fault := order(r, s, m); fault != "" {
				t.Fatalf("seed %d: %s", seed, fault)
			}
			if fault := step(r, s, m); fault != "" {
				t.Fatalf("seed %d: %s", seed, fault)
			}
		}
	}
}
