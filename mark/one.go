package mark

import (
	"slices"

	"replevin/api"
	"replevin/flat"
)

func has(m []api.Mark, at int) bool { return 0 <= at && at < len(m) }

func isBeyond(v api.Mark) bool {
	return v.Age < -1 || v.Age > api.MaxAge || v.Due < -1 || v.Due > api.Never
}

// isWaiting tells whether an event is in and pending.
func isWaiting(v api.Mark) bool { return v.In && v.Due >= 0 }

// isEnabled tells whether an event that there is is enabled, by a marking that fits.
func isEnabled(f flat.Flat, m []api.Mark, at int) bool {
	holdsIt := func(t flat.Tie) bool { return t.To == at && holds(t, m) }
	return m[at].In && !slices.ContainsFunc(f.Ties, holdsIt)
}

// holds tells whether a tie holds up the event that it leads to.
func holds(t flat.Tie, m []api.Mark) bool {
	if !has(m, t.From) {
		return false
	}
	from := m[t.From]
	switch t.Kind {
	case api.Condition:
		// A Time below 0 asks that it was done, as 0 does.
		return from.In && from.Age < max(t.Time, 0)
	case api.Milestone:
		return isWaiting(from)
	}
	return false
}

// touched tells a mark behind what a tie that leads to it does.
func touched(v api.Mark, t flat.Tie) api.Mark {
	switch t.Kind {
	case api.Response:
		due := within(0, t.Time, api.Never)
		if v.Due < 0 || due < v.Due {
			v.Due = due
		}
	case api.Exclude:
		v.In = false
	case api.Include:
		v.In = true
	}
	return v
}

// older tells a mark behind a tick that may come. What is out is due no sooner: its time stands still.
func older(v api.Mark) api.Mark {
	if v.Age >= 0 {
		v.Age = min(v.Age+1, api.MaxAge)
	}
	if isWaiting(v) && v.Due < api.Never {
		v.Due--
	}
	return v
}

// within tells what of a number lies from least to most.
func within(least, n, most int) int { return min(max(n, least), most) }

func copied(m []api.Mark) []api.Mark {
	n := make([]api.Mark, len(m))
	copy(n, m)
	return n
}
