package canopy

// node is what a name leads to: a *file or a *directory. A node is never
// changed once a store keeps it, but for the number of its users.
type node interface {
	// fileCount tells how many files there are in the node.
	fileCount() int
	// height tells how many names the longest path below the node has.
	height() int
	// hold counts one user more.
	hold()
	// letGo counts one user less and tells how many are left.
	letGo() int
}

// shared counts who needs a node: the kept directories that it lies in, and
// the snapshots whose root it is. A node that no store keeps has none.
type shared struct {
	users int
}

func (s *shared) hold() { s.users++ }

func (s *shared) letGo() int {
	s.users--
	return s.users
}

type file struct {
	shared
	data string
}

func (f *file) fileCount() int { return 1 }

func (f *file) height() int { return 0 }

type directory struct {
	shared
	list listing
}

func (d *directory) fileCount() int {
	count := 0
	for i := range d.list.count {
		count += d.list.entries[i].node.fileCount()
	}
	return count
}

func (d *directory) height() int {
	tallest := 0
	for i := range d.list.count {
		tallest = max(tallest, 1+d.list.entries[i].node.height())
	}
	return tallest
}

type entry struct {
	name string
	node node
}

// listing is what lies in a directory: count entries, in the order of their
// names. The rest of the array stays empty, and its nodes are kept ones once
// the directory is kept: so == tells whether two directories are equal. The
// array is long enough since each entry has a file of its own in it.
type listing struct {
	count   int
	entries [maxFiles]entry
}

// search answers where the name is in the listing, or where it would be.
func (l *listing) search(name string) (int, bool) {
	at := 0
	for at < l.count && l.entries[at].name < name {
		at++
	}
	return at, at < l.count && l.entries[at].name == name
}

// find answers what the name leads to, or nil.
func (l *listing) find(name string) node {
	at, there := l.search(name)
	if !there {
		return nil
	}
	return l.entries[at].node
}

// with answers a listing in which the name leads to n.
func (l listing) with(name string, n node) listing {
	at, there := l.search(name)
	if !there {
		copy(l.entries[at+1:], l.entries[at:l.count])
		l.count++
	}
	l.entries[at] = entry{name: name, node: n}
	return l
}

// without answers a listing without the name.
func (l listing) without(name string) listing {
	at, there := l.search(name)
	if !there {
		return l
	}
	copy(l.entries[at:], l.entries[at+1:l.count])
	l.count--
	l.entries[l.count] = entry{}
	return l
}
