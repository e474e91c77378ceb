package text

import "replevin/api"

// statement reads one statement as a graph.
type statement struct {
	reader
	graph api.Graph
}

func (s *statement) read() {
	switch {
	case s.may("group"):
		s.group()
	case s.may("event"):
		s.event()
	case s.may("user"):
		s.user()
	default:
		s.relation()
	}
	s.end()
}

func (s *statement) group() {
	p := api.Group{Name: s.name()}
	p.Parent = s.option("in")
	s.graph.Groups = []api.Group{p}
}

func (s *statement) event() {
	v := api.Event{Name: s.name()}
	v.Group = s.option("in")
	s.must(s.may("role"))
	v.Role = s.name()
	v.In = !s.may("excluded")
	v.Done = s.may("done")
	v.Due = s.due()
	s.graph.Events = []api.Event{v}
}

func (s *statement) due() int {
	switch {
	case s.may("pending"):
		return api.Never
	case s.may("due"):
		return s.number()
	}
	return -1
}

func (s *statement) relation() {
	r := api.Relation{Kind: s.kind()}
	r.From = s.name()
	r.To = s.name()
	r.Time = s.time(r.Kind)
	s.graph.Relations = []api.Relation{r}
}

// kind tells the kind of relation that a statement's first word names.
func (s *statement) kind() int {
	for kind := api.Condition; kind <= api.Milestone; kind++ {
		if s.may(kindWord(kind)) {
			return kind
		}
	}
	s.must(false)
	return 0
}

func (s *statement) time(kind int) int {
	if kind == api.Condition || kind == api.Response {
		if n, ok := s.mayNumber(); ok {
			return n
		}
	}
	return untold(kind)
}

func (s *statement) user() {
	u := api.User{Name: s.name()}
	s.must(s.may("roles"))
	for role, ok := s.mayName(); ok; role, ok = s.mayName() {
		u.Roles = append(u.Roles, role)
	}
	u.Sub = s.option("sub")
	s.graph.Users = []api.User{u}
}
