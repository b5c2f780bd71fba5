// Package canopy: snapshots of trees of files, and what must be built again: see DOC.md.
package canopy

import (
	"maps"
	"slices"
	"strings"
)

// Errno is what a call answers: OK or the reason for a refusal.
type Errno int

const (
	OK          Errno = 0
	ErrArg      Errno = 1  // a number that may not be
	ErrSnapshot Errno = 2  // no such snapshot
	ErrPath     Errno = 3  // no path, or no name
	ErrLong     Errno = 4  // a text above its bound
	ErrKind     Errno = 5  // a file where there is a directory, or the other way round
	ErrAbsent   Errno = 6  // nothing there
	ErrMany     Errno = 7  // too many files, snapshots, rules or questions
	ErrFull     Errno = 8  // too many cells
	ErrPattern  Errno = 9  // no pattern
	ErrQuestion Errno = 10 // no question
	ErrRule     Errno = 11 // no rule
)

const (
	maxCells     = 200
	maxDepth     = 5
	maxName      = 8
	maxData      = 30
	maxFiles     = 20
	maxSnapshots = 12
	maxText      = 60
	maxRules     = 8
	maxQuestions = 6
)

// Store keeps snapshots and rules.
type Store struct {
	room        int // how many cells there may be
	made        int // how many snapshots were ever made: the next one's number
	snapshots   map[int]*directory
	directories map[listing]*directory // each tree of a directory, once
	files       map[string]*file       // each data of a file, once
	rules       map[string]*rule
}

// New makes a store (P3).
func New(cells int) (*Store, Errno) {
	if cells < 1 || cells > maxCells {
		return nil, ErrArg
	}
	s := &Store{
		room:        cells,
		snapshots:   map[int]*directory{},
		directories: map[listing]*directory{},
		files:       map[string]*file{},
		rules:       map[string]*rule{},
	}
	s.add(&directory{})
	return s, OK
}

// Put makes a snapshot with a file (P4).
func (s *Store) Put(snapshot int, path string, data string) (int, Errno) {
	root := s.snapshots[snapshot]
	if root == nil {
		return 0, ErrSnapshot
	}
	names := namesOf(path)
	if names == nil {
		return 0, ErrPath
	}
	if len(data) > maxData {
		return 0, ErrLong
	}
	switch _, found := look(root, names); found {
	case blocked, atDirectory:
		return 0, ErrKind
	case free:
		if root.fileCount() >= maxFiles {
			return 0, ErrMany
		}
	}
	return s.add(root.put(names, &file{data: data}))
}

// Delete makes a snapshot without a file or directory (P4).
func (s *Store) Delete(snapshot int, path string) (int, Errno) {
	root := s.snapshots[snapshot]
	if root == nil {
		return 0, ErrSnapshot
	}
	names := namesOf(path)
	if names == nil {
		return 0, ErrPath
	}
	if n, _ := look(root, names); n == nil {
		return 0, ErrAbsent
	}
	return s.add(root.remove(names))
}

// Move makes a snapshot with a file or directory elsewhere (P5).
func (s *Store) Move(snapshot int, from string, to string) (int, Errno) {
	root := s.snapshots[snapshot]
	if root == nil {
		return 0, ErrSnapshot
	}
	source, target := namesOf(from), namesOf(to)
	if source == nil || target == nil {
		return 0, ErrPath
	}
	moved, _ := look(root, source)
	if moved == nil {
		return 0, ErrAbsent
	}
	if _, found := look(root, target); found != free || begins(source, target) {
		return 0, ErrKind
	}
	if len(target)+moved.height() > maxDepth {
		return 0, ErrPath
	}
	return s.add(root.remove(source).put(target, moved))
}

// Release gives a snapshot up (P6).
func (s *Store) Release(snapshot int) Errno {
	root := s.snapshots[snapshot]
	if root == nil {
		return ErrSnapshot
	}
	delete(s.snapshots, snapshot)
	s.drop(root)
	return OK
}

// Cells tells how much is kept (P6).
func (s *Store) Cells() int { return len(s.directories) + len(s.files) }

// Same tells whether a path is the same in two snapshots (P7).
func (s *Store) Same(a int, b int, path string) (bool, Errno) {
	first, second := s.snapshots[a], s.snapshots[b]
	if first == nil || second == nil {
		return false, ErrSnapshot
	}
	names := namesOrRoot(path)
	if names == nil {
		return false, ErrPath
	}
	left, _ := look(first, names)
	right, _ := look(second, names)
	if left == nil || right == nil {
		return false, ErrAbsent
	}
	return left == right, OK
}

// Diff tells in what two snapshots differ (P7).
func (s *Store) Diff(a int, b int) (string, Errno) {
	first, second := s.snapshots[a], s.snapshots[b]
	if first == nil || second == nil {
		return "", ErrSnapshot
	}
	var lines strings.Builder
	for path, m := range changes(entry{node: first}, entry{node: second}, "") {
		lines.WriteByte(byte(m))
		lines.WriteString(path)
		lines.WriteByte('\n')
	}
	return lines.String(), OK
}

// Ask answers a question about a snapshot (P8).
func (s *Store) Ask(snapshot int, question string) (string, Errno) {
	root := s.snapshots[snapshot]
	if root == nil {
		return "", ErrSnapshot
	}
	q, err := parse(question)
	if err != OK {
		return "", err
	}
	return answer(q, root), OK
}

// Rule sets a rule, or gives it up if there is no question (P9).
func (s *Store) Rule(name string, questions ...string) Errno {
	if !isName(name) {
		return ErrPath
	}
	if len(questions) > maxQuestions || s.rules[name] == nil && len(s.rules) >= maxRules {
		return ErrMany
	}
	parsed, err := parseAll(questions)
	if err != OK {
		return err
	}
	if len(parsed) == 0 {
		delete(s.rules, name)
		return OK
	}
	s.setRule(name, parsed)
	return OK
}

// Plan tells which rules must be built (P9).
func (s *Store) Plan(snapshot int) (string, Errno) {
	root := s.snapshots[snapshot]
	if root == nil {
		return "", ErrSnapshot
	}
	if len(s.rules) == 0 {
		return "", ErrRule
	}
	var lines strings.Builder
	for _, name := range slices.Sorted(maps.Keys(s.rules)) {
		if s.rules[name].build(root) {
			lines.WriteString(name)
			lines.WriteByte('\n')
		}
	}
	return lines.String(), OK
}
