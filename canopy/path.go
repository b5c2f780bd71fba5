package canopy

import (
	"slices"
	"strings"
)

// namesOf answers the names of a path, or nil if the text is no path.
func namesOf(path string) []string { return pieces(path, isName) }

// pieces answers the pieces of a text between its slashes, or nil if they are
// too many, or one of them is wrong.
func pieces(text string, isRight func(string) bool) []string {
	// One piece more than there may be is enough to refuse the text, however long the rest is.
	found := strings.SplitN(text, "/", maxDepth+1)
	if len(found) > maxDepth {
		return nil
	}
	for _, piece := range found {
		if !isRight(piece) {
			return nil
		}
	}
	return found
}

// namesOrRoot answers the names of a path, none of them for the root, or nil if
// the text is neither.
func namesOrRoot(path string) []string {
	if path == "/" {
		return []string{}
	}
	return namesOf(path)
}

// join answers the path of what lies by that name in the directory, the root
// having the empty path.
func join(path string, name string) string {
	if path == "" {
		return name
	}
	return path + "/" + name
}

func isName(text string) bool { return isMadeOf(text, isNameByte) }

// isMadeOf tells whether a text is as long as a name may be, of such bytes alone.
func isMadeOf(text string, isRight func(byte) bool) bool {
	if len(text) < 1 || len(text) > maxName {
		return false
	}
	for i := range len(text) {
		if !isRight(text[i]) {
			return false
		}
	}
	return true
}

func isNameByte(b byte) bool {
	return 'a' <= b && b <= 'z' || '0' <= b && b <= '9' || b == '.'
}

// begins tells whether the names of start are the first ones of names, or all of them.
func begins(start []string, names []string) bool {
	return slices.Equal(start, names[:min(len(start), len(names))])
}
