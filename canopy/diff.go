package canopy

import (
	"iter"
	"strings"
)

// mark tells in which of two snapshots a path is a file.
type mark byte

const (
	alike    mark = 0 // in none of them, or in both with the same data
	inFirst  mark = '-'
	inSecond mark = '+'
	inBoth   mark = '~'
)

func markOf(a, b *file) mark {
	switch {
	case a == b:
		return alike
	case b == nil:
		return inFirst
	case a == nil:
		return inSecond
	}
	return inBoth
}

// changes goes through the paths that are marked, in their order, from what a
// and b lead to in the directory inside on down. Either may be empty.
func changes(a, b entry, inside string) iter.Seq2[string, mark] {
	return func(yield func(string, mark) bool) {
		if a == b {
			return
		}
		path := join(inside, max(a.name, b.name)) // an empty entry has no name
		fileOfA, listOfA := apart(a.node)
		fileOfB, listOfB := apart(b.node)
		// A file's own path is a beginning of all that a directory has there.
		if m := markOf(fileOfA, fileOfB); m != alike && !yield(path, m) {
			return
		}
		for left, right := range pairs(listOfA, listOfB) {
			for below, m := range changes(left, right, path) {
				if !yield(below, m) {
					return
				}
			}
		}
	}
}

// apart answers what a node is: a file, or what lies in a directory. The other
// one is nil or empty, and so are both of nothing.
func apart(n node) (*file, *listing) {
	switch n := n.(type) {
	case *file:
		return n, &listing{}
	case *directory:
		return nil, &n.list
	}
	return nil, &listing{}
}

// pairs goes through the names of a and b, in their order: what each of them
// has by that name, an empty entry if nothing.
func pairs(a, b *listing) iter.Seq2[entry, entry] {
	return func(yield func(entry, entry) bool) {
		i, j := 0, 0
		for i < a.count || j < b.count {
			left, right := next(a, i, b, j)
			if !yield(left, right) {
				return
			}
			if left.node != nil {
				i++
			}
			if right.node != nil {
				j++
			}
		}
	}
}

// next answers the entries of a at i and of b at j if they have the same name,
// else the one whose name comes first, beside an empty one. One of them is there.
func next(a *listing, i int, b *listing, j int) (left entry, right entry) {
	switch {
	case i == a.count:
		return entry{}, b.entries[j]
	case j == b.count:
		return a.entries[i], entry{}
	}
	left, right = a.entries[i], b.entries[j]
	switch strings.Compare(left.name, right.name) {
	case -1:
		return left, entry{}
	case 1:
		return entry{}, right
	}
	return left, right
}
