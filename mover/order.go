package mover

import (
	"slices"

	"matins/api"
)

// The phases of plans.
const (
	begun   = 1
	flipped = 2 // the map says the new group
	opened  = 3
	givenUp = 9
)

// outgoing is the group and the order of a right map's plan. The order shares memory with what the mover has.
func outgoing(a api.Atlas, have api.Shard) (int, api.Order) {
	p := a.Plan
	switch {
	case p.Phase == givenUp:
		return undoing(p, have)
	case p.Kind == api.PlanSplit:
		return p.Group, api.Order{Kind: api.OrdSplit, Shard: p.Shard, Epoch: p.Epoch, Other: p.Other, Past: p.Epoch + 1, Key: p.Key}
	case p.Kind == api.PlanMerge:
		return p.Group, joining(a)
	}
	return moving(p, have)
}

// has tells whether what the mover has is the shard of the plan, and not of one long ago.
func has(p api.Plan, have api.Shard) bool { return have.Id == p.Shard && have.Epoch == p.Epoch }

func moving(p api.Plan, have api.Shard) (int, api.Order) {
	switch {
	case p.Phase == flipped:
		return p.Group, api.Order{Kind: api.OrdOpen, Shard: p.Shard, Epoch: p.Epoch + 1}
	case p.Phase == opened:
		return p.Past, api.Order{Kind: api.OrdRetire, Shard: p.Shard, Epoch: p.Epoch}
	case !has(p, have):
		return p.Past, freezing(p)
	}
	have.Epoch, have.State = p.Epoch+1, api.Held
	return p.Group, api.Order{Kind: api.OrdInstall, State: have}
}

// undoing brings the shard back to serve where it was. Orders of the phase 1 may still be on their way then, so that ahead of it they are made vain: a frozen shard is neither split nor merged, and one that is gone isn't installed.
func undoing(p api.Plan, have api.Shard) (int, api.Order) {
	move := p.Kind == api.PlanMove
	owner := p.Group
	if move {
		owner = p.Past
	}
	switch {
	case !has(p, have):
		return owner, freezing(p)
	case move && have.State != api.Gone:
		return p.Group, api.Order{Kind: api.OrdRetire, Shard: p.Shard, Epoch: p.Epoch + 1}
	}
	return owner, api.Order{Kind: api.OrdThaw, Shard: p.Shard, Epoch: p.Epoch, Past: p.Epoch + 2}
}

func freezing(p api.Plan) api.Order {
	return api.Order{Kind: api.OrdFreeze, Shard: p.Shard, Epoch: p.Epoch}
}

func joining(a api.Atlas) api.Order {
	p := a.Plan
	at := slices.IndexFunc(a.Spans, func(s api.Span) bool { return s.Shard == p.Other }) // in a right map Other is the next span's
	epoch := a.Spans[at].Epoch
	return api.Order{Kind: api.OrdMerge, Shard: p.Shard, Epoch: p.Epoch, Other: p.Other, Past: max(p.Epoch, epoch) + 1, State: api.Shard{Epoch: epoch}}
}

// copied is a shard that shares no memory: its jobs, its sessions, and the jobs in what they tell are its own.
func copied(s api.Shard) api.Shard {
	s.Jobs = slices.Clone(s.Jobs)
	s.Seen = slices.Clone(s.Seen)
	for i, seen := range s.Seen {
		s.Seen[i].Result.Jobs = slices.Clone(seen.Result.Jobs)
	}
	return s
}
