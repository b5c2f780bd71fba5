package canopy

import (
	"slices"
	"strings"
)

// no is the answer where what is asked for isn't there.
const no = "no"

// question is what may be asked of a snapshot, of one of the kinds below.
type question interface {
	// fault tells what is wrong with a path, name or pattern of the question.
	fault() Errno
}

type existsQuestion struct{ target }

type listQuestion struct{ target }

type readQuestion struct{ target }

type globQuestion struct {
	parts []string // nil if it is no pattern
}

type firstQuestion struct {
	name        string
	directories []target
}

// target is a path or the root, of which a question is.
type target struct {
	names []string // nil if it is neither
}

func (t target) fault() Errno {
	if t.names == nil {
		return ErrPath
	}
	return OK
}

func (q globQuestion) fault() Errno {
	if q.parts == nil {
		return ErrPattern
	}
	return OK
}

func (q firstQuestion) fault() Errno {
	if !isName(q.name) {
		return ErrPath
	}
	for _, d := range q.directories {
		if err := d.fault(); err != OK {
			return err
		}
	}
	return OK
}

// parse answers the question that a text is, or the error of one that is none.
func parse(text string) (question, Errno) {
	if len(text) > maxText {
		return nil, ErrLong
	}
	q := questionOf(strings.Split(text, " "))
	if q == nil {
		return nil, ErrQuestion
	}
	if err := q.fault(); err != OK {
		return nil, err
	}
	return q, OK
}

// questionOf answers the question of these words, faulty as they may be, or
// nil if they are not those of a question.
func questionOf(words []string) question {
	if slices.Contains(words, "") {
		return nil
	}
	kind, rest := words[0], words[1:]
	if kind == "first" && len(rest) > 1 {
		return firstQuestion{name: rest[0], directories: targetsOf(rest[1:])}
	}
	if len(rest) != 1 {
		return nil
	}
	switch kind {
	case "exists":
		return existsQuestion{targetOf(rest[0])}
	case "list":
		return listQuestion{targetOf(rest[0])}
	case "read":
		return readQuestion{targetOf(rest[0])}
	case "glob":
		return globQuestion{parts: partsOf(rest[0])}
	}
	return nil
}

func targetOf(word string) target { return target{names: namesOrRoot(word)} }

func targetsOf(words []string) []target {
	var all []target
	for _, word := range words {
		all = append(all, targetOf(word))
	}
	return all
}

// answer tells what a snapshot's root answers to a question without fault.
func answer(q question, root *directory) string {
	switch q := q.(type) {
	case existsQuestion:
		return kindAt(root, q.names)
	case listQuestion:
		return listAt(root, q.names)
	case readQuestion:
		return dataAt(root, q.names)
	case globQuestion:
		return fitting(root, q.parts)
	case firstQuestion:
		return firstPath(root, q)
	}
	return no
}

func kindAt(root *directory, names []string) string {
	switch _, found := look(root, names); found {
	case atFile:
		return "file"
	case atDirectory:
		return "directory"
	}
	return no
}

func listAt(root *directory, names []string) string {
	n, _ := look(root, names)
	switch n := n.(type) {
	case *directory:
		return ":" + strings.Join(n.list.labels(), " ")
	}
	return no
}

// labels answers the names of the listing, those of directories with a slash behind.
func (l *listing) labels() []string {
	var all []string
	for _, e := range l.entries[:l.count] {
		switch e.node.(type) {
		case *file:
			all = append(all, e.name)
		case *directory:
			all = append(all, e.name+"/")
		}
	}
	return all
}

func dataAt(root *directory, names []string) string {
	n, _ := look(root, names)
	switch n := n.(type) {
	case *file:
		return "=" + n.data
	}
	return no
}

func fitting(root *directory, parts []string) string {
	var lines strings.Builder
	// All files of a snapshot, in their order, are what it has more than nothing.
	for path := range changes(entry{}, entry{node: root}, "") {
		if fits(path, parts) {
			lines.WriteString(path)
			lines.WriteByte('\n')
		}
	}
	return lines.String()
}

func firstPath(root *directory, q firstQuestion) string {
	for _, d := range q.directories {
		names := append(slices.Clone(d.names), q.name)
		if _, found := look(root, names); found == atFile {
			return strings.Join(names, "/")
		}
	}
	return no
}
