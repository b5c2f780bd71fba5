package canopy

import (
	"slices"
	"strings"
)

// namesOf answers the names of a path, or nil if the text is no path.
func namesOf(path string) []string {
	// One piece more than a path may have is enough to refuse it, however long the rest is.
	names := strings.SplitN(path, "/", maxDepth+1)
	if len(names) > maxDepth {
		return nil
	}
	for _, name := range names {
		if !isName(name) {
			return nil
		}
	}
	return names
}

// namesOrRoot answers the names of a path, none of them for the root, or nil if
// the text is neither.
func namesOrRoot(path string) []string {
	if path == "/" {
		return []string{}
	}
	return namesOf(path)
}

// join answers the path of what lies by that name in the directory, the root
// having the empty path.
func join(path string, name string) string {
	if path == "" {
		return name
	}
	return path + "/" + name
}

func isName(text string) bool {
	if len(text) < 1 || len(text) > maxName {
		return false
	}
	for i := range len(text) {
		if !isNameByte(text[i]) {
			return false
		}
	}
	return true
}

func isNameByte(b byte) bool {
	return 'a' <= b && b <= 'z' || '0' <= b && b <= '9' || b == '.'
}

// begins tells whether the names of start are the first ones of names, or all of them.
func begins(start []string, names []string) bool {
	return slices.Equal(start, names[:min(len(start), len(names))])
}
