package canopy

import "strings"

// anyNames is the part of a pattern to which any number of names is laid.
const anyNames = "**"

// partsOf answers the parts of a pattern, or nil if the text is none.
func partsOf(pattern string) []string { return pieces(pattern, isPart) }

func isPart(text string) bool {
	return text == anyNames || isMadeOf(text, isPartByte) && !strings.Contains(text, anyNames)
}

func isPartByte(b byte) bool { return isNameByte(b) || b == '*' || b == '?' }

// fits tells whether a path fits the parts of a pattern.
func fits(path string, parts []string) bool {
	return isLaid(strings.Split(path, "/"), parts, anyNames, spells)
}

// spells tells whether a part other than anyNames spells the name.
func spells(part string, name string) bool {
	return isLaid([]byte(name), []byte(part), '*', spellsByte)
}

func spellsByte(part byte, b byte) bool { return part == '?' || part == b }

// isLaid tells whether the items can be laid to the parts in their order: to
// the part run any number of them, to another part one that it takes. The
// limits of a pattern keep the ways to try few.
func isLaid[T comparable](items []T, parts []T, run T, takes func(part, item T) bool) bool {
	if len(parts) == 0 {
		return len(items) == 0
	}
	if parts[0] != run {
		return len(items) > 0 && takes(parts[0], items[0]) && isLaid(items[1:], parts[1:], run, takes)
	}
	for length := range len(items) + 1 {
		if isLaid(items[length:], parts[1:], run, takes) {
			return true
		}
	}
	return false
}
