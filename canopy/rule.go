package canopy

// rule is a list of questions, and what they were answered when it was built last.
type rule struct {
	questions []question
	answers   map[int]reply // by the question's place; none, if it was not built yet
}

type reply struct {
	text string
}

// parseAll answers the questions that the texts are, or the error of the first
// text that has one.
func parseAll(texts []string) ([]question, Errno) {
	var all []question
	for _, text := range texts {
		q, err := parse(text)
		if err != OK {
			return nil, err
		}
		all = append(all, q)
	}
	return all, OK
}

// setRule lays the questions to the rule of that name, which is there from now
// on and was not built yet.
func (s *Store) setRule(name string, questions []question) {
	r := s.rules[name]
	if r == nil {
		r = &rule{answers: map[int]reply{}}
		s.rules[name] = r
	}
	// An answer left here would let the same questions pass for built ones.
	clear(r.answers)
	r.questions = questions
}

// build asks the rule's questions of a snapshot's root and tells whether the
// rule must be built: it was not yet, or one answer is another than it was
// then. The answers kept are those of this building.
func (r *rule) build(root *directory) bool {
	due := false
	for at, q := range r.questions {
		now := reply{text: answer(q, root)}
		if last, given := r.answers[at]; !given || last != now {
			r.answers[at] = now
			due = true
		}
	}
	return due
}
