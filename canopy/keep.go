package canopy

// add makes the tree a snapshot and answers its number. Only what the snapshot
// is made of is kept, so what was made on the way to it takes no room.
func (s *Store) add(tree *directory) (int, Errno) {
	if len(s.snapshots) >= maxSnapshots {
		return 0, ErrMany
	}
	root := s.keepDirectory(tree)
	root.hold()
	if s.Cells() > s.room {
		s.drop(root)
		return 0, ErrFull
	}
	number := s.made
	s.made++
	s.snapshots[number] = root
	return number, OK
}

// keep answers the one node of the store that stands for the same as n.
func (s *Store) keep(n node) node {
	switch n := n.(type) {
	case *file:
		return s.keepFile(n)
	case *directory:
		return s.keepDirectory(n)
	}
	return n
}

func (s *Store) keepFile(f *file) *file {
	if kept := s.files[f.data]; kept != nil {
		return kept
	}
	s.files[f.data] = f
	return f
}

func (s *Store) keepDirectory(d *directory) *directory {
	if d.users > 0 {
		return d
	}
	list := d.list
	for i := range list.count {
		list.entries[i].node = s.keep(list.entries[i].node)
	}
	if kept := s.directories[list]; kept != nil {
		return kept
	}
	for i := range list.count {
		list.entries[i].node.hold()
	}
	kept := &directory{list: list}
	s.directories[list] = kept
	return kept
}

// drop takes one user from n, and deletes what nobody needs any more.
func (s *Store) drop(n node) {
	if n.letGo() > 0 {
		return
	}
	switch n := n.(type) {
	case *file:
		delete(s.files, n.data)
	case *directory:
		delete(s.directories, n.list)
		for i := range n.list.count {
			s.drop(n.list.entries[i].node)
		}
	}
}
