package atlas_test

import (
	"math"
	"slices"
	"testing"

	"matins/api"
)

// other are numbers that are no phase of a plan in a phase.
func other(phase int) []int {
	all := []int{0, 1, 2, 3, 4, 5, 8, 9, 10, -1, -9, phase + 1, phase - 1, phase + 256, phase + 1<<32, math.MaxInt, math.MinInt}
	return slices.DeleteFunc(all, func(n int) bool { return n == phase })
}

func TestAdvanceMove(t *testing.T) {
	a := planned(api.PlanMove, 1)
	behind := at(a, 1, func(s *api.Span) { s.Group, s.Epoch = 3, 21 })
	behind.Plan.Phase = 2
	turns(t, "P19.4: Advance(1) of a move", advance(t, a, 1), behind)
	turns(t, "P19.4: Advance(1) of a move", answer{a: behind}, planned(api.PlanMove, 2))
	turns(t, "P19.4: Advance(2) of a move", advance(t, behind, 2), planned(api.PlanMove, 3))
	behind.Plan = api.Plan{}
	turns(t, "P19.4: Advance(3) of a move", advance(t, planned(api.PlanMove, 3), 3), behind)
	turns(t, "P19.4: Advance(9) of a move", advance(t, planned(api.PlanMove, 9), 9), at(three(), 1, func(s *api.Span) { s.Epoch = 22 }))
	for n := 1; n <= api.MaxShards; n++ {
		for i := range n {
			for _, epoch := range []int64{1, 1 << 32, top - 2} {
				a := at(many(n), i, func(s *api.Span) { s.Epoch = epoch })
				group := 1 + a.Spans[i].Group%3
				a = must(t, begin(t, a, move(a.Spans[i].Shard, group)))
				behind := at(a, i, func(s *api.Span) { s.Group, s.Epoch = group, epoch+1 })
				behind.Plan.Phase = 2
				turns(t, "P19.4: Advance(1) of a move", advance(t, a, 1), behind)
			}
		}
	}
}

func TestAdvanceSplit(t *testing.T) {
	for i, key := range []string{"c", "m", "t"} {
		for _, epoch := range []int64{1, 30, 1 << 32, top - 2} {
			a := at(three(), i, func(s *api.Span) { s.Epoch = epoch })
			s := a.Spans[i]
			want := a
			want.Last = 10
			want.Spans = slices.Concat(a.Spans[:i], []api.Span{spanOf(s.From, key, s.Shard, epoch+1, s.Group), spanOf(key, s.To, 10, epoch+1, s.Group)}, a.Spans[i+1:])
			turns(t, "P19.4: Advance(1) of a split", advance(t, must(t, begin(t, a, split(s.Shard, key))), 1), want)
		}
	}
	turns(t, "P19.4: Advance(9) of a split", advance(t, planned(api.PlanSplit, 9), 9), at(three(), 1, func(s *api.Span) { s.Epoch = 22 }))
	for n := 1; n < api.MaxShards; n++ {
		for i := range n {
			a := many(n)
			s := a.Spans[i]
			key := s.From + "-"
			want := a
			want.Last = n + 6
			want.Spans = slices.Concat(a.Spans[:i], []api.Span{spanOf(s.From, key, s.Shard, s.Epoch+1, s.Group), spanOf(key, s.To, n+6, s.Epoch+1, s.Group)}, a.Spans[i+1:])
			turns(t, "P19.4: Advance(1) of a split", advance(t, must(t, begin(t, a, split(s.Shard, key))), 1), want)
		}
	}
	a := three() // the last number that there is
	a.Last = top - 1
	a = must(t, begin(t, a, split(2, "m")))
	a = must(t, advance(t, a, 1))
	if a.Spans[2] != spanOf("m", "p", top, 21, 2) || a.Last != top {
		t.Errorf("P19.4: %s", told(a))
	}
	noBegin(t, a, split(2, "k"), api.ErrFull)
}

// With the greater one of both's Epochs and 1, whichever has it.
func TestAdvanceMerge(t *testing.T) {
	for _, r := range [][3]int64{{20, 5, 21}, {5, 20, 21}, {20, 20, 21}, {1, 1, 2}, {1, 2, 3}, {2, 1, 3}, {19, 20, 21}, {20, 19, 21}, {top - 2, 1, top - 1}, {1, top - 2, top - 1}, {top - 2, top - 2, top - 1}, {1 << 32, 5, 1<<32 + 1}, {5, 1 << 32, 1<<32 + 1}} {
		a := three()
		a.Spans[1].Epoch, a.Spans[2].Epoch = r[0], r[1]
		want := a
		want.Spans = []api.Span{a.Spans[0], spanOf("h", "", 2, r[2], 2)}
		turns(t, "P19.4: Advance(1) of a merge", advance(t, must(t, begin(t, a, merge(2))), 1), want)
		a.Spans[0].Group = 2
		a.Spans[0].Epoch, a.Spans[1].Epoch = r[0], r[1]
		want.Spans = []api.Span{spanOf("", "p", 4, r[2], 2), a.Spans[2]}
		turns(t, "P19.4: Advance(1) of a merge", advance(t, must(t, begin(t, a, merge(4))), 1), want)
	}
	turns(t, "P19.4: Advance(9) of a merge", advance(t, planned(api.PlanMerge, 9), 9), at(three(), 1, func(s *api.Span) { s.Epoch = 22 }))
	for n := 2; n <= api.MaxShards; n++ {
		for i := range n - 1 {
			a := at(many(n), i+1, func(s *api.Span) { s.Group = 1 + i%3 })
			s, next := a.Spans[i], a.Spans[i+1]
			want := a
			want.Spans = slices.Concat(a.Spans[:i], []api.Span{spanOf(s.From, next.To, s.Shard, next.Epoch+1, s.Group)}, a.Spans[i+2:])
			turns(t, "P19.4: Advance(1) of a merge", advance(t, must(t, begin(t, a, merge(s.Shard))), 1), want)
		}
	}
}

// With another phase than the plan's, and without a plan, nothing has been done.
func TestAdvanceRefused(t *testing.T) {
	for _, s := range stages {
		for _, phase := range other(s.phase) {
			noAdvance(t, s.plan(), phase)
		}
	}
	for _, a := range []api.Atlas{three(), many(1), many(api.MaxShards)} {
		noAdvance(t, a, 0)
		for _, phase := range other(0) {
			noAdvance(t, a, phase)
		}
	}
}

func TestAbort(t *testing.T) {
	for _, s := range stages {
		if s.phase != 1 {
			noAbort(t, s.plan())
			continue
		}
		turns(t, "P19.5: Abort", abort(t, s.plan()), planned(s.kind, 9))
		for _, epoch := range []int64{1, 2, 1 << 32, top - 3, top - 2} {
			a := at(s.plan(), 1, func(x *api.Span) { x.Epoch = epoch })
			a.Plan.Epoch = epoch
			want := at(a, 1, func(x *api.Span) { x.Epoch = epoch + 2 })
			want.Plan.Phase = 9
			turns(t, "P19.5: Abort", abort(t, a), want)
			noAbort(t, want)
			want.Plan = api.Plan{}
			turns(t, "P19.4: Advance(9)", advance(t, abort(t, a).a, 9), want)
		}
	}
	for _, a := range []api.Atlas{three(), many(1), many(api.MaxShards)} {
		noAbort(t, a)
	}
}

// Wherever the span stands, it alone rises.
func TestAbortPlaces(t *testing.T) {
	for n := 1; n < api.MaxShards; n++ {
		for i := range n {
			a := many(n)
			for j := range a.Spans {
				a.Spans[j].Group = 2
			}
			s := a.Spans[i]
			asked := []api.Plan{move(s.Shard, 1), split(s.Shard, s.From+"-")}
			if i+1 < n {
				asked = append(asked, merge(s.Shard))
			}
			for _, p := range asked {
				begun := must(t, begin(t, a, p))
				want := at(begun, i, func(s *api.Span) { s.Epoch += 2 })
				want.Plan.Phase = 9
				turns(t, "P19.5: Abort", abort(t, begun), want)
			}
		}
	}
}

// A number that was a split's stays used, even if the split was given up.
func TestAbortedSplits(t *testing.T) {
	a := three()
	for i := range 5 {
		a = must(t, begin(t, a, split(2, "m")))
		if a.Last != 10+i || a.Plan.Other != 10+i || a.Plan.Epoch != int64(20+2*i) {
			t.Errorf("P19.3: %s", told(a))
		}
		a = must(t, advance(t, must(t, abort(t, a)), 9))
	}
	if a.Last != 14 || len(a.Spans) != 3 || a.Spans[1].Epoch != 30 {
		t.Errorf("P19.5: %s", told(a))
	}
}
