package atlas

import (
	"slices"

	"matins/api"
	"matins/jobs"
)

const (
	lastShard = 1 << 40
	lastEpoch = 1 << 40
	lastStart = lastEpoch - 2 // room for the two by which an Epoch rises when a plan is given up
)

// The phases of plans: of moves all, of the others the first and the last.
const (
	begun   = 1
	moved   = 2 // the map says where the shard goes, and there it isn't open
	opened  = 3 // it is open there, and not retired where it was
	givenUp = 9
)

func areGroups(n int) bool { return n >= 1 && n <= api.MaxGroups }

func isGroup(a api.Atlas, n int) bool { return n >= 1 && n <= a.Groups }

func isEpoch(n int64) bool { return n >= 1 && n <= lastEpoch }

// mayRise tells whether a plan may begin at an Epoch.
func mayRise(epoch int64) bool { return epoch <= lastStart }

// endsAbove tells whether a span ends above a name.
func endsAbove(s api.Span, name string) bool { return s.To == "" || s.To > name }

// parts tells whether a key is a name that leaves something of a span on both its sides.
func parts(s api.Span, key string) bool {
	return jobs.Named(key) && key > s.From && endsAbove(s, key)
}

// place is where the span of a shard stands; -1: no span has it.
func place(a api.Atlas, shard int) int {
	return slices.IndexFunc(a.Spans, func(s api.Span) bool { return s.Shard == shard })
}

// next is the span behind the one at a place; false: that is the last one.
func next(a api.Atlas, at int) (api.Span, bool) {
	if at+1 == len(a.Spans) {
		return api.Span{}, false
	}
	return a.Spans[at+1], true
}

// rightSpans tells whether all of a map but its plan is right.
func rightSpans(a api.Atlas) bool {
	if !areGroups(a.Groups) || a.Last > lastShard || len(a.Spans) < 1 || len(a.Spans) > api.MaxShards {
		return false
	}
	for i, s := range a.Spans {
		if s.Shard < 1 || s.Shard > a.Last || place(a, s.Shard) != i || !isEpoch(s.Epoch) || !isGroup(a, s.Group) {
			return false
		}
	}
	return joined(a.Spans)
}

// joined tells whether spans cover all names, each once.
func joined(spans []api.Span) bool {
	from := ""
	for i, s := range spans {
		if s.From != from {
			return false
		}
		if i < len(spans)-1 && !(jobs.Named(s.To) && s.To > from) {
			return false
		}
		from = s.To
	}
	return from == ""
}

// rightPlan tells whether a map's plan is right, where all else is.
func rightPlan(a api.Atlas) bool {
	p := a.Plan
	if p == (api.Plan{}) {
		return true
	}
	at := place(a, p.Shard)
	if at < 0 || p.Epoch < 1 || !mayRise(p.Epoch) || !stands(p, a.Spans[at]) {
		return false
	}
	switch p.Kind {
	case api.PlanMove:
		return rightMove(a)
	case api.PlanSplit:
		return rightSplit(a, at)
	case api.PlanMerge:
		return rightMerge(a, at)
	}
	return false
}

// stands tells whether a plan's span has the Group and the Epoch that it has in the plan's phase.
func stands(p api.Plan, s api.Span) bool {
	group := p.Group
	if p.Kind == api.PlanMove {
		group = p.Past
	}
	switch {
	case p.Phase == begun:
		return s.Group == group && s.Epoch == p.Epoch
	case p.Phase == givenUp:
		return s.Group == group && s.Epoch == p.Epoch+2
	case p.Kind == api.PlanMove && (p.Phase == moved || p.Phase == opened):
		return s.Group == p.Group && s.Epoch == p.Epoch+1
	}
	return false
}

func rightMove(a api.Atlas) bool {
	p := a.Plan
	return p.Group != p.Past && isGroup(a, p.Group) && isGroup(a, p.Past) && p.Other == 0 && p.Key == ""
}

func rightSplit(a api.Atlas, at int) bool {
	p := a.Plan
	return p.Past == 0 && p.Other == a.Last && place(a, p.Other) < 0 && parts(a.Spans[at], p.Key) && len(a.Spans) < api.MaxShards
}

func rightMerge(a api.Atlas, at int) bool {
	p := a.Plan
	upper, ok := next(a, at)
	return ok && p.Other == upper.Shard && p.Group == upper.Group && mayRise(upper.Epoch) && p.Past == 0 && p.Key == ""
}
