package atlas

import (
	"slices"

	"matins/api"
)

// drawn is the plan that a right map without one is asked for, or how it is refused.
func drawn(a api.Atlas, asked api.Plan) (api.Plan, api.Errno) {
	if asked.Kind < api.PlanMove || asked.Kind > api.PlanMerge {
		return api.Plan{}, api.ErrArg
	}
	at := place(a, asked.Shard)
	if at < 0 {
		return api.Plan{}, api.ErrShard
	}
	if !mayRise(a.Spans[at].Epoch) {
		return api.Plan{}, api.ErrArg
	}
	switch asked.Kind {
	case api.PlanMove:
		return drawnMove(a, at, asked.Group)
	case api.PlanSplit:
		return drawnSplit(a, at, asked.Key)
	}
	return drawnMerge(a, at)
}

func drawnMove(a api.Atlas, at, group int) (api.Plan, api.Errno) {
	s := a.Spans[at]
	if !isGroup(a, group) || group == s.Group {
		return api.Plan{}, api.ErrArg
	}
	return api.Plan{Kind: api.PlanMove, Phase: begun, Shard: s.Shard, Group: group, Past: s.Group, Epoch: s.Epoch}, api.OK
}

func drawnSplit(a api.Atlas, at int, key string) (api.Plan, api.Errno) {
	s := a.Spans[at]
	if !parts(s, key) {
		return api.Plan{}, api.ErrRange
	}
	if len(a.Spans) == api.MaxShards || a.Last == lastShard {
		return api.Plan{}, api.ErrFull
	}
	return api.Plan{Kind: api.PlanSplit, Phase: begun, Shard: s.Shard, Other: a.Last + 1, Group: s.Group, Epoch: s.Epoch, Key: key}, api.OK
}

func drawnMerge(a api.Atlas, at int) (api.Plan, api.Errno) {
	s := a.Spans[at]
	upper, ok := next(a, at)
	switch {
	case !ok:
		return api.Plan{}, api.ErrRange
	case !mayRise(upper.Epoch):
		return api.Plan{}, api.ErrArg
	case upper.Group != s.Group:
		return api.Plan{}, api.ErrRange
	}
	return api.Plan{Kind: api.PlanMerge, Phase: begun, Shard: s.Shard, Other: upper.Shard, Group: s.Group, Epoch: s.Epoch}, api.OK
}

// advanced is a map of one's own behind the phase of its plan.
func advanced(a api.Atlas) api.Atlas {
	switch a.Plan.Phase {
	case begun:
		return changed(a)
	case moved:
		a.Plan.Phase = opened
	default: // what was moved is retired, or what was begun is undone
		a.Plan = api.Plan{}
	}
	return a
}

// changed is a map of one's own behind the first phase of its plan, in which the groups have done what the map is to say.
func changed(a api.Atlas) api.Atlas {
	p, at := a.Plan, place(a, a.Plan.Shard)
	switch p.Kind {
	case api.PlanMove:
		a.Spans[at].Group = p.Group
		a.Spans[at].Epoch++
		a.Plan.Phase = moved
		return a
	case api.PlanSplit:
		a.Spans = split(a.Spans, at, p)
	case api.PlanMerge:
		a.Spans = merged(a.Spans, at)
	}
	a.Plan = api.Plan{}
	return a
}

// split writes over spans, and answers them with the one at a place parted as a plan says.
func split(spans []api.Span, at int, p api.Plan) []api.Span {
	lower := &spans[at]
	lower.Epoch++
	upper := *lower
	upper.Shard, upper.From = p.Other, p.Key
	lower.To = p.Key
	return slices.Insert(spans, at+1, upper)
}

// merged writes over spans, and answers them with the one at a place and the next one as one.
func merged(spans []api.Span, at int) []api.Span {
	lower, upper := &spans[at], spans[at+1]
	lower.To = upper.To
	lower.Epoch = max(lower.Epoch, upper.Epoch) + 1
	return slices.Delete(spans, at+1, at+2)
}
