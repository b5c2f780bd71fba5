package canopy

// place is what stands where a path leads to.
type place int

const (
	free    place = iota // nothing, and a file may be put there
	blocked              // nothing, and a file's path is a beginning of it
	atFile
	atDirectory
)

// look follows the names down from n. Where nothing stands the node is nil.
func look(n node, names []string) (node, place) {
	switch at := n.(type) {
	case *file:
		if len(names) > 0 {
			return nil, blocked
		}
		return at, atFile
	case *directory:
		if len(names) == 0 {
			return at, atDirectory
		}
		return look(at.list.find(names[0]), names[1:])
	}
	return nil, free
}

// below answers the directory of that name in d, an empty one if there is none.
func (d *directory) below(name string) *directory {
	switch n := d.list.find(name).(type) {
	case *directory:
		return n
	}
	return &directory{}
}

// put answers a tree in which the names lead to n, and all else is as in d.
func (d *directory) put(names []string, n node) *directory {
	name, rest := names[0], names[1:]
	if len(rest) > 0 {
		n = d.below(name).put(rest, n)
	}
	return &directory{list: d.list.with(name, n)}
}

// remove answers a tree in which the names lead to nothing, and all else is as
// in d. A directory left without files is none any more.
func (d *directory) remove(names []string) *directory {
	name, rest := names[0], names[1:]
	if len(rest) > 0 {
		left := d.below(name).remove(rest)
		if left.list.count > 0 {
			return &directory{list: d.list.with(name, left)}
		}
	}
	return &directory{list: d.list.without(name)}
}
