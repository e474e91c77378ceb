package needs

import (
	"maps"
	"slices"

	"replevin/api"
	"replevin/flat"
)

// way leads from an event to another one, or to itself, by the net of needs.
type way struct{ from, to int }

// blocks tells whether a tie lets the event that it comes from block the one that it leads to.
func blocks(t flat.Tie) bool { return t.Kind == api.Condition || t.Kind == api.Milestone }

// calls tells whether a tie lets the event that it comes from call for the one that it leads to.
func calls(t flat.Tie) bool { return t.Kind == api.Response }

func isBetweenEvents(f flat.Flat, t flat.Tie) bool { return has(f, t.From) && has(f, t.To) }

func has(f flat.Flat, at int) bool { return 0 <= at && at < len(f.Events) }

// gathered tells what a look finds in the ties between events, each once.
func gathered[K comparable](f flat.Flat, look func(flat.Tie) (K, bool)) map[K]struct{} {
	m := map[K]struct{}{}
	for _, t := range f.Ties {
		if k, ok := look(t); ok && isBetweenEvents(f, t) {
			m[k] = struct{}{}
		}
	}
	return m
}

// events tells the places of the events that a choice takes.
func events(f flat.Flat, takes func(api.Event) bool) map[int]struct{} {
	m := map[int]struct{}{}
	for at, v := range f.Events {
		if takes(v) {
			m[at] = struct{}{}
		}
	}
	return m
}

// joined tells what several maps hold, each once.
func joined[K comparable](several ...map[K]struct{}) map[K]struct{} {
	all := map[K]struct{}{}
	for _, m := range several {
		maps.Copy(all, m)
	}
	return all
}

// rising tells the places that several maps hold, rising, each once.
func rising(several ...map[int]struct{}) []int {
	return slices.Sorted(maps.Keys(joined(several...)))
}
