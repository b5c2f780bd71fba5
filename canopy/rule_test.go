package canopy

import (
	"fmt"
	"maps"
	"math"
	"math/rand/v2"
	"slices"
	"strings"
	"testing"
)

func wantRule(t *testing.T, s *Store, want Errno, name string, questions ...string) {
	t.Helper()
	if err := s.Rule(name, questions...); err != want {
		t.Errorf("Rule(%.20q, %.70q) = %d, want %d", name, questions, err, want)
	}
}

// wantPlan wants these names of rules.
func wantPlan(t *testing.T, s *Store, snapshot int, names ...string) {
	t.Helper()
	want := ""
	for _, name := range names {
		want += name + "\n"
	}
	if got, err := s.Plan(snapshot); got != want || err != OK {
		t.Errorf("Plan(%d) = %q, %d, want %q", snapshot, got, err, want)
	}
}

func wantNoPlan(t *testing.T, s *Store, snapshot int, want Errno) {
	t.Helper()
	if got, err := s.Plan(snapshot); got != "" || err != want {
		t.Errorf("Plan(%d) = %q, %d, want nothing and %d", snapshot, got, err, want)
	}
}

func TestP9Example(t *testing.T) {
	s := newStore(t, 20)
	wantPut(t, s, 0, "src/a.c", "x", 1, OK)
	wantPut(t, s, 1, "lib/a.c", "x", 2, OK)
	wantMove(t, s, 2, "src", "lib/src", 3, OK)
	wantRule(t, s, OK, "all", "glob src/*.c")
	wantPlan(t, s, 1, "all")
	wantPlan(t, s, 2)
	wantPlan(t, s, 3, "all")
	wantPlan(t, s, 3)
}

// TestP9Kinds: of each kind of question, whether an edit gives it another answer.
func TestP9Kinds(t *testing.T) {
	s := newStore(t, 200)
	n := putAll(t, s, 0, "d/a", "d/b", "e/f/a")
	wantPut(t, s, n, "d/a", "y", n+1, OK)
	wantPut(t, s, n, "d/c", "x", n+2, OK)
	wantDelete(t, s, n, "d", n+3, OK)
	wantMove(t, s, n, "d", "g", n+4, OK)
	wantDelete(t, s, n, "d/a", n+5, OK)
	wantPut(t, s, n+5, "d/a/a", "x", n+6, OK)
	for question, want := range map[string][]int{
		"exists d": {n + 3, n + 4}, "exists d/a": {n + 3, n + 4, n + 5, n + 6}, "exists e": nil, "exists q": nil,
		"list /": {n + 3, n + 4}, "list d": {n + 2, n + 3, n + 4, n + 5, n + 6}, "list e/f": nil, "list d/a": {n + 6},
		"read d/a": {n + 1, n + 3, n + 4, n + 5, n + 6}, "read e/f/a": nil, "read d": nil,
		"glob d/?": {n + 2, n + 3, n + 4, n + 5, n + 6}, "glob **/a": {n + 3, n + 4, n + 5, n + 6}, "glob q": nil,
		"first a d e/f": {n + 3, n + 4, n + 5, n + 6}, "first a e/f d": nil, "first a d/a /": {n + 6}, "first q /": nil,
	} {
		for edited := n + 1; edited <= n+6; edited++ {
			wantRule(t, s, OK, "r", question)
			wantPlan(t, s, n, "r")
			if slices.Contains(want, edited) {
				wantPlan(t, s, edited, "r")
			} else {
				wantPlan(t, s, edited)
			}
		}
	}
}

// TestP9EachQuestion: one question of as many as there may be has another answer, whichever it is.
func TestP9EachQuestion(t *testing.T) {
	s := newStore(t, 200)
	questions := []string{"exists a", "exists b", "exists c", "exists d", "exists e", "exists f"}
	wantRule(t, s, OK, "all", questions...)
	wantPlan(t, s, 0, "all")
	for i, question := range questions {
		wantPut(t, s, 0, strings.TrimPrefix(question, "exists "), "x", i+1, OK)
		wantPlan(t, s, i+1, "all")
		wantPlan(t, s, i+1)
		wantPlan(t, s, 0, "all")
		wantPlan(t, s, 0)
	}
	wantPut(t, s, 0, "g", "x", 7, OK)
	wantPlan(t, s, 7)
}

// TestP9LastTold: an answer is held against the one of the last building, not of the one before or of another rule.
func TestP9LastTold(t *testing.T) {
	s := newStore(t, 200)
	for i, data := range []string{"x", "y", "z"} {
		wantPut(t, s, 0, "a", data, i+1, OK)
	}
	wantPut(t, s, 2, "b", "x", 4, OK)
	wantRule(t, s, OK, "a", "read a")
	wantPlan(t, s, 1, "a")
	wantRule(t, s, OK, "b", "read a", "read b")
	wantPlan(t, s, 1, "b")
	wantPlan(t, s, 2, "a", "b")
	wantPlan(t, s, 4, "b")
	wantPlan(t, s, 2, "b")
	wantPlan(t, s, 1, "a", "b")
	wantPlan(t, s, 3, "a", "b")
	wantPlan(t, s, 1, "a", "b")
	wantPlan(t, s, 1)
}

// TestP9EmptyAnswer: an answer without a byte is one too.
func TestP9EmptyAnswer(t *testing.T) {
	s := newStore(t, 200)
	wantPut(t, s, 0, "a", "", 1, OK)
	wantRule(t, s, OK, "r", "glob *")
	wantPlan(t, s, 0, "r")
	wantPlan(t, s, 0)
	wantPlan(t, s, 1, "r")
	wantPlan(t, s, 0, "r")
	wantPlan(t, s, 0)
}

// TestP9SameText: answers are texts: the path no and the word no are the same one.
func TestP9SameText(t *testing.T) {
	s := newStore(t, 200)
	wantPut(t, s, 0, "no", "no", 1, OK)
	wantRule(t, s, OK, "first", "first no /")
	wantRule(t, s, OK, "read", "read no")
	wantPlan(t, s, 0, "first", "read")
	wantPlan(t, s, 1, "read")
}

// TestP9Anew: a rule that is set anew was not built yet, whatever its questions are.
func TestP9Anew(t *testing.T) {
	s := newStore(t, 200)
	wantPut(t, s, 0, "a", "x", 1, OK)
	wantRule(t, s, OK, "r", "exists a", "exists b")
	wantRule(t, s, OK, "s", "exists a")
	wantPlan(t, s, 0, "r", "s")
	for _, questions := range [][]string{
		{"exists a", "exists b"}, {"exists b", "exists a"}, {"exists b"}, {"exists b", "list b", "read b"}, {"list a"},
	} {
		wantRule(t, s, OK, "r", questions...)
		wantPlan(t, s, 0, "r")
		wantPlan(t, s, 0)
	}
	wantRule(t, s, OK, "r", "exists b")
	wantPlan(t, s, 0, "r")
	wantPlan(t, s, 1, "s")
}

// TestP9AnewOnce: set twice with no Plan between it is one rule, with the questions of the second time.
func TestP9AnewOnce(t *testing.T) {
	s := newStore(t, 200)
	wantPut(t, s, 0, "a", "x", 1, OK)
	wantRule(t, s, OK, "r", "exists a")
	wantRule(t, s, OK, "r", "exists b")
	wantPlan(t, s, 0, "r")
	wantPlan(t, s, 1)
}

func TestP9GivenUp(t *testing.T) {
	s := newStore(t, 200)
	wantRule(t, s, OK, "r")
	wantNoPlan(t, s, 0, ErrRule)
	wantRule(t, s, OK, "r", "list /")
	wantRule(t, s, OK, "s", "list /")
	wantRule(t, s, OK, "q")
	wantPlan(t, s, 0, "r", "s")
	wantRule(t, s, OK, "r")
	wantPlan(t, s, 0)
	wantRule(t, s, OK, "r", []string{}...)
	wantRule(t, s, OK, "r", "list /")
	wantPlan(t, s, 0, "r")
	wantRule(t, s, OK, "s")
	wantRule(t, s, OK, "r", []string(nil)...)
	wantNoPlan(t, s, 0, ErrRule)
}

func TestP9Order(t *testing.T) {
	s := newStore(t, 200)
	names := []string{".", "..", "0", "9.a", "a", "a.", "ab", "abcdefgh"}
	for i := range names {
		wantRule(t, s, OK, names[i*3%len(names)], "list /")
	}
	wantPlan(t, s, 0, names...)
	wantPlan(t, s, 0)
}

func TestP9Names(t *testing.T) {
	s := newStore(t, 200)
	for _, name := range append([]string{"a/b", "//", "a ", " a", "a\n", "é", "**", "\x00", strings.Repeat("a", 1<<20)}, noPaths...) {
		wantRule(t, s, ErrPath, name, "list /")
		wantRule(t, s, ErrPath, name)
	}
	wantNoPlan(t, s, 0, ErrRule)
	for _, name := range []string{"a", "z", "0", "9", ".", "..", "abcdefgh", "........"} {
		wantRule(t, s, OK, name, "list /")
	}
}

func TestP9ManyQuestions(t *testing.T) {
	s := newStore(t, 200)
	for count := range 7 {
		wantRule(t, s, OK, "r", slices.Repeat([]string{"list /"}, count)...)
	}
	wantPlan(t, s, 0, "r")
	for _, count := range []int{7, 8, 60, 1 << 20} {
		wantRule(t, s, ErrMany, "r", slices.Repeat([]string{"list /"}, count)...)
		wantRule(t, s, ErrMany, "q", slices.Repeat([]string{"list /"}, count)...)
	}
	wantPlan(t, s, 0)
}

func TestP9ManyRules(t *testing.T) {
	s := newStore(t, 200)
	for i := range 8 {
		wantRule(t, s, OK, string(rune('a'+i)), "list /")
	}
	wantRule(t, s, ErrMany, "i", "list /")
	wantRule(t, s, ErrMany, "i")
	wantPlan(t, s, 0, "a", "b", "c", "d", "e", "f", "g", "h")
	wantRule(t, s, OK, "h", "list a")
	wantPlan(t, s, 0, "h")
	wantRule(t, s, OK, "a")
	wantRule(t, s, OK, "i")
	wantRule(t, s, OK, "i", "list /")
	wantRule(t, s, ErrMany, "a", "list /")
	wantRule(t, s, ErrMany, "a")
	wantPlan(t, s, 0, "i")
}

// faultyQuestions: questions with their own error.
var faultyQuestions = map[string]Errno{
	strings.Repeat("x", 61): ErrLong, "glob " + strings.Repeat("*", 56): ErrLong,
	"": ErrQuestion, " ": ErrQuestion, "list": ErrQuestion, "list / /": ErrQuestion, "first a": ErrQuestion, "a": ErrQuestion,
	"list A": ErrPath, "read //": ErrPath, "exists a/b/c/d/e/f": ErrPath, "first a/b /": ErrPath, "first a / A": ErrPath,
	"glob A": ErrPattern, "glob ***": ErrPattern, "glob /": ErrPattern,
}

// TestP9QuestionErrors: the first question that has an error tells it, as Ask does.
func TestP9QuestionErrors(t *testing.T) {
	s := newStore(t, 200)
	for first, want := range faultyQuestions {
		wantAsk(t, s, 0, first, "", want)
		wantRule(t, s, want, "r", first)
		for second := range faultyQuestions {
			wantRule(t, s, want, "r", first, second)
			wantRule(t, s, want, "r", "list /", "exists a", first, "read a", second, "glob *")
			wantRule(t, s, want, "r", "glob *", "glob *", "glob *", "glob *", first, second)
		}
		wantRule(t, s, want, "r", "list /", "list /", "list /", "list /", "list /", first)
	}
	wantNoPlan(t, s, 0, ErrRule)
}

// TestP9NoSnapshot: rules are set, and their questions' errors told, also where no snapshot is there.
func TestP9NoSnapshot(t *testing.T) {
	s := newStore(t, 200)
	wantRelease(t, s, 0, OK)
	for question, want := range faultyQuestions {
		wantRule(t, s, want, "r", question)
	}
	wantNoPlan(t, s, 0, ErrSnapshot)
	wantRule(t, s, OK, "r", "list /", "read a", "exists a", "glob a", "first a /")
	wantNoPlan(t, s, 0, ErrSnapshot)
	wantRule(t, s, OK, "r")
}

func TestP9PlanRefused(t *testing.T) {
	s := newStore(t, 200)
	wantPut(t, s, 0, "a", "x", 1, OK)
	wantPut(t, s, 0, "b", "x", 2, OK)
	wantRelease(t, s, 1, OK)
	gone := []int{1, 3, -1, math.MaxInt, math.MinInt}
	for _, n := range gone {
		wantNoPlan(t, s, n, ErrSnapshot)
	}
	wantNoPlan(t, s, 0, ErrRule)
	wantNoPlan(t, s, 2, ErrRule)
	wantRule(t, s, OK, "r", "list /")
	for _, n := range gone {
		wantNoPlan(t, s, n, ErrSnapshot)
	}
	wantPlan(t, s, 2, "r")
	for _, n := range gone {
		wantNoPlan(t, s, n, ErrSnapshot)
	}
	wantPlan(t, s, 2)
}

// TestP9Released: what a rule was built of may be released, and made again.
func TestP9Released(t *testing.T) {
	s := newStore(t, 200)
	wantRule(t, s, OK, "r", "glob **", "read a")
	wantPut(t, s, 0, "a", "x", 1, OK)
	wantPlan(t, s, 1, "r")
	wantRelease(t, s, 1, OK)
	wantPut(t, s, 0, "a", "x", 2, OK)
	wantPlan(t, s, 2)
	wantRelease(t, s, 2, OK)
	wantPut(t, s, 0, "a", "y", 3, OK)
	wantPlan(t, s, 3, "r")
}

// TestP1FirstErrorOfRule: several errors apply at once; they are mended one by one, in the promise's order.
func TestP1FirstErrorOfRule(t *testing.T) {
	s := newStore(t, 20)
	for i := range 8 {
		wantRule(t, s, OK, fmt.Sprint(i), "list /")
	}
	wantRule(t, s, ErrPath, "A", "", "", "", "", "", "", "")
	wantRule(t, s, ErrMany, "a", "", "", "", "", "", "", "")
	wantRule(t, s, ErrMany, "0", "", "", "", "", "", "", "")
	wantRule(t, s, ErrMany, "a", "", "", "", "", "", "")
	wantRule(t, s, ErrQuestion, "0", "", "list A", "", "", "", "")
	wantRule(t, s, ErrPath, "0", "list A", "", "", "", "", "")
	wantRule(t, s, OK, "0", "list a", "list /")
}

// TestP1RuleNothingChanges: a refused Rule leaves the rule of that name as it is, questions and answers.
func TestP1RuleNothingChanges(t *testing.T) {
	s := newStore(t, 20)
	wantPut(t, s, 0, "a", "x", 1, OK)
	wantPut(t, s, 0, "b", "x", 2, OK)
	refuse := func() {
		wantRule(t, s, ErrQuestion, "r", "exists b", "")
		wantRule(t, s, ErrPattern, "r", "exists b", "exists a", "glob A")
		wantRule(t, s, ErrMany, "r", slices.Repeat([]string{"exists b"}, 7)...)
		wantRule(t, s, ErrLong, "new", strings.Repeat("x", 61))
		wantRule(t, s, ErrPath, "new", "exists b", "exists B")
	}
	refuse()
	wantNoPlan(t, s, 0, ErrRule)
	wantRule(t, s, OK, "r", "exists a")
	refuse()
	wantPlan(t, s, 0, "r")
	refuse()
	wantPlan(t, s, 2)
	wantPlan(t, s, 1, "r")
	refuse()
	wantPlan(t, s, 1)
	wantCells(t, s, 4)
	wantPut(t, s, 0, "c", "x", 3, OK)
}

// TestP9NoCells: rules and plans take no room and change no snapshot.
func TestP9NoCells(t *testing.T) {
	s := newStore(t, 4)
	wantPut(t, s, 0, "a/b", "x", 1, OK)
	for i := range 8 {
		wantRule(t, s, OK, fmt.Sprint(i), "glob **", "read a/b", "list a", "list /", "exists a", "first b a")
		wantPlan(t, s, i%2, strings.Fields("0 1 2 3 4 5 6 7")[:i+1]...)
	}
	wantCells(t, s, 4)
	wantFiles(t, s, 0, files{})
	wantFiles(t, s, 1, files{"a/b": "x"})
	wantRelease(t, s, 1, OK)
	wantCells(t, s, 1)
	wantPut(t, s, 0, "a/b", "y", 2, OK)
	wantCells(t, s, 4)
}

// TestP2Rules: a store's rules are its own, and so is whether they were built.
func TestP2Rules(t *testing.T) {
	a, b := newStore(t, 20), newStore(t, 20)
	wantRule(t, a, OK, "r", "list /")
	wantNoPlan(t, b, 0, ErrRule)
	wantRule(t, b, OK, "r", "list /")
	wantPlan(t, a, 0, "r")
	wantPlan(t, b, 0, "r")
	wantRule(t, a, OK, "r")
	wantPlan(t, b, 0)
	wantNoPlan(t, a, 0, ErrRule)
}

// TestP2Lists: a list that is handed in by ... is not written into, also beyond its end, and what becomes of it later is not seen.
func TestP2Lists(t *testing.T) {
	s := newStore(t, 20)
	wantPut(t, s, 0, "a", "x", 1, OK)
	before := []string{"read b", "exists b", "glob b", "beyond", "beyond", "beyond", "beyond"}
	questions := slices.Clone(before)
	wantRule(t, s, OK, "r", questions[:3]...)
	wantRule(t, s, ErrQuestion, "q", questions[:4]...)
	wantPlan(t, s, 0, "r")
	wantRule(t, s, OK, "r", questions[:2]...)
	wantPlan(t, s, 0, "r")
	if !slices.Equal(questions, before) {
		t.Errorf("Rule left %q of its list, want %q", questions, before)
	}
	for i := range questions {
		questions[i] = "read a"
	}
	wantPlan(t, s, 1)
	wantRule(t, s, OK, "r", questions[:1]...)
	wantPlan(t, s, 0, "r")
	questions[0] = "A"
	wantPlan(t, s, 1, "r")
}

// reading answers all that can be asked of a snapshot, and its difference from itself.
func reading(s *Store, snapshot int) string {
	paths, err := s.Ask(snapshot, "glob **")
	text := fmt.Sprintf("%q %d", paths, err)
	places := []string{"/"}
	for _, path := range strings.Fields(paths) {
		names := strings.Split(path, "/")
		for depth := range names {
			places = append(places, strings.Join(names[:depth+1], "/"))
		}
	}
	for _, place := range places {
		for _, kind := range []string{"exists ", "list ", "read ", "first a ", "first b "} {
			answer, err := s.Ask(snapshot, kind+place)
			text += fmt.Sprintf("; %s%s: %q %d", kind, place, answer, err)
		}
	}
	diff, err := s.Diff(snapshot, snapshot)
	return text + fmt.Sprintf("; %q %d", diff, err)
}

// someCall makes one call of the store, right or wrong, and answers the number of the snapshot it made.
func someCall(r *rand.Rand, s *Store, there []int) (int, Errno) {
	n := there[r.IntN(len(there))]
	switch r.IntN(8) {
	case 0, 1, 2:
		return s.Put(n, somePath(r), pick(r, someTexts))
	case 3:
		return s.Delete(n, somePath(r))
	case 4, 5:
		return s.Move(n, somePath(r), somePath(r))
	case 6:
		s.Rule(pick(r, someNames), "glob **", "list "+somePath(r))
	case 7:
		s.Plan(n)
	}
	return 0, ErrArg
}

// TestP10 makes and releases snapshots, and reads each one that is there behind every call.
func TestP10(t *testing.T) {
	for seed := range uint64(12) {
		r := rand.New(rand.NewPCG(seed, 2))
		s := newStore(t, []int{200, 40, 15}[seed%3])
		texts := map[int]string{0: reading(s, 0)}
		for range 400 {
			there := slices.Sorted(maps.Keys(texts))
			if n, err := someCall(r, s, there); err == OK {
				texts[n] = reading(s, n)
			}
			if len(there) > 2+r.IntN(10) {
				gone := there[r.IntN(len(there))]
				wantRelease(t, s, gone, OK)
				delete(texts, gone)
			}
			for n, want := range texts {
				if got := reading(s, n); got != want {
					t.Fatalf("seed %d: snapshot %d reads %s, and when it was made %s", seed, n, got, want)
				}
			}
		}
	}
}

// TestP10Shared: what a released snapshot had in common with another one stays, also where it was moved or refused for want of room.
func TestP10Shared(t *testing.T) {
	s := newStore(t, 8)
	n := putAll(t, s, 0, "a/b/c", "a/d")
	was := reading(s, n)
	wantMove(t, s, n, "a/b", "e", n+1, OK)
	wantRelease(t, s, n+1, OK)
	wantMove(t, s, n, "a", "f", n+2, OK)
	wantRelease(t, s, 0, OK)
	wantPut(t, s, n, "a/b/c/d", "x", 0, ErrKind)
	wantMove(t, s, n, "a/b/c", "q/q/q/q/q", 0, ErrFull)
	wantPut(t, s, n, "a/b/q", "y", 0, ErrFull)
	wantDelete(t, s, n, "a/d", n+3, OK)
	wantRelease(t, s, n+2, OK)
	wantRelease(t, s, n+3, OK)
	if got := reading(s, n); got != was {
		t.Errorf("snapshot %d reads %s, and when it was made %s", n, got, was)
	}
	wantFiles(t, s, n, files{"a/b/c": "x", "a/d": "x"})
	wantCells(t, s, 4)
}

// modelRule keeps its questions as texts; its answers are nil as long as it was not built.
type modelRule struct {
	questions, answers []string
}

func (m *model) rule(name string, questions ...string) Errno {
	if !modelIsPath(name) || strings.Contains(name, "/") {
		return ErrPath
	}
	if _, there := m.rules[name]; len(questions) > 6 || !there && len(m.rules) == 8 {
		return ErrMany
	}
	for _, question := range questions {
		if err := modelFault(question); err != OK {
			return err
		}
	}
	delete(m.rules, name)
	if len(questions) > 0 {
		m.rules[name] = &modelRule{questions: slices.Clone(questions)}
	}
	return OK
}

func (m *model) plan(snapshot int) (string, Errno) {
	if m.snapshots[snapshot] == nil {
		return "", ErrSnapshot
	}
	if len(m.rules) == 0 {
		return "", ErrRule
	}
	text := ""
	for _, name := range slices.Sorted(maps.Keys(m.rules)) {
		rule := m.rules[name]
		var answers []string
		for _, question := range rule.questions {
			answer, _ := m.ask(snapshot, question)
			answers = append(answers, answer)
		}
		if rule.answers == nil || !slices.Equal(answers, rule.answers) {
			text += name + "\n"
			rule.answers = answers
		}
	}
	return text, OK
}

// someRuleName is one of so many that at times there are too many rules.
func someRuleName(r *rand.Rand) string {
	if r.IntN(20) == 0 {
		return pick(r, noPaths)
	}
	return pick(r, []string{"a", "b", "c", "a.c", "..", "abcdefgh", "0", "z9", "aa", "."})
}

// order sets a rule at times, mostly one that can be, and asks both for a plan and tells where they differ.
func order(r *rand.Rand, s *Store, m *model) string {
	snapshot := someSnapshot(r, m)
	if r.IntN(4) == 0 {
		name := someRuleName(r)
		var questions []string
		for range r.IntN(4) * r.IntN(4) {
			questions = append(questions, someQuestion(r, m.snapshots[snapshot]))
		}
		if r.IntN(4) > 0 {
			questions = slices.DeleteFunc(questions, func(question string) bool { return modelFault(question) != OK })
		}
		if got, want := s.Rule(name, questions...), m.rule(name, questions...); got != want {
			return fmt.Sprintf("Rule(%q, %q) = %d, want %d", name, questions, got, want)
		}
	}
	got, err := s.Plan(snapshot)
	if want, wantErr := m.plan(snapshot); got != want || err != wantErr {
		return fmt.Sprintf("Plan(%d) = %q, %d, want %q, %d", snapshot, got, err, want, wantErr)
	}
	return ""
}
