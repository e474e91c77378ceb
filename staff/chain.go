package staff

import (
	"iter"
	"slices"
)

// place tells the place of the user of a name; -1: there is none.
func (s *Staff) place(name string) int {
	if at, is := s.places[name]; is {
		return at
	}
	return -1
}

// chain goes through the places of a user's chain, from the user's own on; of the place -1 there is none. It ends: in a graph that may be nobody is met again.
func (s *Staff) chain(first int) iter.Seq[int] {
	return func(yield func(int) bool) {
		for at := first; at >= 0; at = s.members[at].sub {
			if !yield(at) {
				return
			}
		}
	}
}

// holders goes through the places of those who hold a role, be they here or away.
func (s *Staff) holders(role string) iter.Seq[int] {
	return func(yield func(int) bool) {
		for at, m := range s.members {
			if slices.Contains(m.roles, role) && !yield(at) {
				return
			}
		}
	}
}

// able tells of each user whether it may do what a role does.
func (s *Staff) able(role string) []bool {
	may := make([]bool, len(s.members))
	for holder := range s.holders(role) {
		for at := range s.chain(holder) {
			may[at] = !s.members[at].away
		}
	}
	return may
}
