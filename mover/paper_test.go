package mover_test

import (
	"slices"

	"matins/api"
	"matins/atlas"
)

// A plain reading of the chapter, row by row and sentence by sentence.

type paperRow struct {
	kinds []int
	phase int
	has   func(p api.Plan, have api.Shard) bool
	group func(p api.Plan) int
	order func(p api.Plan, next api.Span, have api.Shard) api.Order
}

func paperHas(p api.Plan, have api.Shard) bool { return have.Id == p.Shard && have.Epoch == p.Epoch }

func hasNot(p api.Plan, have api.Shard) bool { return !paperHas(p, have) }

func hasLive(p api.Plan, have api.Shard) bool { return paperHas(p, have) && have.State != 4 }

func hasGone(p api.Plan, have api.Shard) bool { return paperHas(p, have) && have.State == 4 }

func hasAny(api.Plan, api.Shard) bool { return true }

func toGroup(p api.Plan) int { return p.Group }

func toPast(p api.Plan) int { return p.Past }

func toOwner(p api.Plan) int {
	if p.Kind == 1 {
		return p.Past
	}
	return p.Group
}

func paperFreeze(p api.Plan, next api.Span, have api.Shard) api.Order {
	return api.Order{Kind: 2, Shard: p.Shard, Epoch: p.Epoch}
}

func paperThaw(p api.Plan, next api.Span, have api.Shard) api.Order {
	return api.Order{Kind: 3, Shard: p.Shard, Epoch: p.Epoch, Past: p.Epoch + 2}
}

func paperInstall(p api.Plan, next api.Span, have api.Shard) api.Order {
	o := api.Order{Kind: 4}
	o.State.Id, o.State.Epoch, o.State.State = have.Id, p.Epoch+1, 3
	o.State.From, o.State.To = have.From, have.To
	o.State.Jobs, o.State.Seen = have.Jobs, have.Seen
	return o
}

func paperOpen(p api.Plan, next api.Span, have api.Shard) api.Order {
	return api.Order{Kind: 5, Shard: p.Shard, Epoch: p.Epoch + 1}
}

func paperRetireNew(p api.Plan, next api.Span, have api.Shard) api.Order {
	return api.Order{Kind: 6, Shard: p.Shard, Epoch: p.Epoch + 1}
}

func paperRetireOld(p api.Plan, next api.Span, have api.Shard) api.Order {
	return api.Order{Kind: 6, Shard: p.Shard, Epoch: p.Epoch}
}

func paperSplit(p api.Plan, next api.Span, have api.Shard) api.Order {
	return api.Order{Kind: 7, Shard: p.Shard, Epoch: p.Epoch, Other: p.Other, Past: p.Epoch + 1, Key: p.Key}
}

func paperMerge(p api.Plan, next api.Span, have api.Shard) api.Order {
	o := api.Order{Kind: 8, Shard: p.Shard, Epoch: p.Epoch, Other: p.Other, Past: p.Epoch + 1}
	if next.Epoch > p.Epoch {
		o.Past = next.Epoch + 1
	}
	o.State.Epoch = next.Epoch
	return o
}

func paperRows() []paperRow {
	return []paperRow{
		{[]int{1, 2, 3}, 9, hasNot, toOwner, paperFreeze},
		{[]int{1}, 9, hasLive, toGroup, paperRetireNew},
		{[]int{1}, 9, hasGone, toPast, paperThaw},
		{[]int{2, 3}, 9, paperHas, toGroup, paperThaw},
		{[]int{1}, 1, hasNot, toPast, paperFreeze},
		{[]int{1}, 1, paperHas, toGroup, paperInstall},
		{[]int{1}, 2, hasAny, toGroup, paperOpen},
		{[]int{1}, 3, hasAny, toPast, paperRetireOld},
		{[]int{2}, 1, hasAny, toGroup, paperSplit},
		{[]int{3}, 1, hasAny, toGroup, paperMerge},
	}
}

// paperRowOf is the number of the row, from 1 on; 0: there is no order. Just one row fits a plan of a right map.
func paperRowOf(a api.Atlas, have api.Shard) int {
	if !atlas.Check(a) || a.Plan.Kind == 0 {
		return 0
	}
	found := 0
	for i, r := range paperRows() {
		if slices.Contains(r.kinds, a.Plan.Kind) && r.phase == a.Plan.Phase && r.has(a.Plan, have) {
			if found > 0 {
				panic("two rows")
			}
			found = i + 1
		}
	}
	if found == 0 {
		panic("no row")
	}
	return found
}

func paperNext(a api.Atlas, have api.Shard) (int, api.Order, bool) {
	n := paperRowOf(a, have)
	if n == 0 {
		return 0, api.Order{}, false
	}
	var next api.Span
	for i, s := range a.Spans {
		if s.Shard == a.Plan.Shard && i+1 < len(a.Spans) {
			next = a.Spans[i+1]
		}
	}
	r := paperRows()[n-1]
	return r.group(a.Plan), r.order(a.Plan, next, have), true
}

func paperHeard(a api.Atlas, have api.Shard, r api.Result, s api.Shard) (api.Shard, int) {
	_, o, ok := paperNext(a, have)
	if !ok {
		return have, 0
	}
	p := a.Plan
	known := api.Shard{Id: p.Shard, Epoch: p.Epoch}
	gone := api.Shard{Id: p.Shard, Epoch: p.Epoch, State: 4}
	type answered struct{ kind, phase, err int }
	switch (answered{o.Kind, p.Phase, int(r.Err)}) {
	case answered{2, 1, 0}, answered{2, 9, 0}:
		return s, 0
	case answered{2, 9, 171}:
		return known, 0
	case answered{4, 1, 0}:
		return have, 1
	case answered{4, 1, 3}, answered{4, 1, 1}, answered{4, 1, 4}, answered{4, 1, 171}:
		return have, -1
	case answered{6, 3, 0}, answered{6, 3, 171}:
		return have, 3
	case answered{6, 9, 0}, answered{6, 9, 171}:
		return gone, 0
	case answered{3, 9, 0}:
		return api.Shard{}, 9
	case answered{5, 2, 0}:
		return api.Shard{}, 2
	case answered{7, 1, 0}, answered{8, 1, 0}:
		return have, 1
	case answered{7, 1, 3}:
		return api.Shard{}, -1
	}
	return have, 0
}
