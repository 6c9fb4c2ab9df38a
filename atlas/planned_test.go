package atlas_test

import (
	"math"
	"testing"

	"matins/api"
	"matins/atlas"
)

// planned is the map of three with a plan of its second span, in a phase that there is.
func planned(kind, phase int) api.Atlas {
	a := three()
	s := &a.Spans[1]
	a.Plan = api.Plan{Kind: kind, Phase: phase, Shard: 2, Epoch: 20, Group: 2}
	switch phase {
	case 2, 3:
		s.Epoch, s.Group = 21, 3
	case 9:
		s.Epoch = 22
	}
	switch kind {
	case api.PlanMove:
		a.Plan.Group, a.Plan.Past = 3, 2
	case api.PlanSplit:
		a.Plan.Other, a.Plan.Key = 9, "m"
	case api.PlanMerge:
		a.Plan.Other = 7
	}
	return a
}

// stage is a Kind of plan in a phase.
type stage struct{ kind, phase int }

// stages are all that there are.
var stages = []stage{{1, 1}, {1, 2}, {1, 3}, {1, 9}, {2, 1}, {2, 9}, {3, 1}, {3, 9}}

func (s stage) plan() api.Atlas { return planned(s.kind, s.phase) }

// rise is by how much the span's Epoch is above the plan's.
func (s stage) rise() int64 { return s.plan().Spans[1].Epoch - 20 }

// vary looks at plans with one field set to each of some values; want tells which ones are right.
func vary[T any](t *testing.T, s stage, set func(*api.Plan, T), want func(T) bool, values ...T) {
	t.Helper()
	for _, v := range values {
		wantCheck(t, with(s.plan(), func(p *api.Plan) { set(p, v) }), want(v))
	}
}

// among tells which values are some.
func among[T comparable](some ...T) func(T) bool {
	return func(v T) bool {
		for _, x := range some {
			if x == v {
				return true
			}
		}
		return false
	}
}

var oddInts = []int{math.MinInt, -1 << 32, -2, -1, 0, 1, 2, 3, 4, 5, 6, 7, 8, 9, 10, 11, 16, 17, 256 + 1, 256 + 2, 256 + 9, 1<<32 + 1, 1<<32 + 2, 1<<32 + 3, 1<<32 + 7, 1<<32 + 9, top, top + 1, math.MaxInt}

func setKind(p *api.Plan, n int)    { p.Kind = n }
func setPhase(p *api.Plan, n int)   { p.Phase = n }
func setShard(p *api.Plan, n int)   { p.Shard = n }
func setOther(p *api.Plan, n int)   { p.Other = n }
func setGroup(p *api.Plan, n int)   { p.Group = n }
func setPast(p *api.Plan, n int)    { p.Past = n }
func setEpoch(p *api.Plan, n int64) { p.Epoch = n }
func setKey(p *api.Plan, s string)  { p.Key = s }

func TestCheckPlans(t *testing.T) {
	for _, s := range stages {
		p := s.plan().Plan
		wantCheck(t, s.plan(), true)
		vary(t, s, setKind, among(s.kind), oddInts...)
		if s.kind == api.PlanMove && (s.phase == 2 || s.phase == 3) {
			vary(t, s, setPhase, among(2, 3), oddInts...)
		} else {
			vary(t, s, setPhase, among(s.phase), oddInts...)
		}
		vary(t, s, setShard, among(2), oddInts...)
		vary(t, s, setOther, among(p.Other), oddInts...)
		switch {
		case s.kind != api.PlanMove:
			vary(t, s, setGroup, among(2), oddInts...)
			vary(t, s, setPast, among(0), oddInts...)
		case s.phase == 1 || s.phase == 9:
			vary(t, s, setGroup, among(1, 3, 4), oddInts...)
			vary(t, s, setPast, among(2), oddInts...)
		default:
			vary(t, s, setGroup, among(3), oddInts...)
			vary(t, s, setPast, among(1, 2, 4), oddInts...)
		}
		vary(t, s, setEpoch, among[int64](20), 20, 19, 21, 18, 22, 23, 0, -1, 1, 20+1<<32, top-2, top-1, math.MaxInt64, math.MinInt64, math.MinInt64+20)
		if s.kind != api.PlanSplit {
			vary(t, s, setKey, among(""), append([]string{"m", "h", "p", "i", "a", "z"}, noNames...)...)
		}
	}
}

// The plan's Epoch, and the span's with it.
func TestCheckPlansEpochs(t *testing.T) {
	for _, s := range stages {
		for _, r := range []struct {
			epoch int64
			want  bool
		}{{math.MinInt64, false}, {-2, false}, {-1, false}, {0, false}, {1, true}, {2, true}, {1 << 32, true}, {top - 3, true}, {top - 2, true}, {top - 1, false}, {top, false}, {top + 1, false}, {math.MaxInt64, false}} {
			for _, off := range []int64{-2, -1, 0, 1, 2, 1 << 32} {
				a := s.plan()
				a.Plan.Epoch = r.epoch
				a.Spans[1].Epoch = r.epoch + s.rise() + off
				wantCheck(t, a, r.want && off == 0)
			}
		}
	}
}

// The span's Group with the plan's.
func TestCheckPlansGroups(t *testing.T) {
	for _, s := range stages {
		for group := range 7 {
			for past := range 7 {
				for of := range 7 {
					a := s.plan()
					a.Plan.Group, a.Plan.Past, a.Spans[1].Group = group, past, of
					in := of >= 1 && of <= 4 && group >= 1 && group <= 4
					var want bool
					switch {
					case s.kind == api.PlanSplit:
						want = in && group == of && past == 0
					case s.kind == api.PlanMerge:
						want = group == 2 && of == 2 && past == 0 // the next span's
					case s.phase == 1 || s.phase == 9:
						want = in && past == of && group != past
					default:
						want = in && group == of && past >= 1 && past <= 4 && group != past
					}
					wantCheck(t, a, want)
				}
			}
		}
	}
}

// Where there is no plan, no field is set.
func TestCheckNoPlan(t *testing.T) {
	for _, a := range []api.Atlas{three(), many(1), many(api.MaxShards)} {
		wantCheck(t, a, true)
		for _, n := range []int{1, 2, 3, 9, -1, 4, 7, 1 << 32, math.MinInt, math.MaxInt} {
			for _, set := range []func(*api.Plan, int){setPhase, setShard, setOther, setGroup, setPast} {
				wrong(t, with(a, func(p *api.Plan) { set(p, n) }))
			}
			wrong(t, with(a, func(p *api.Plan) { setEpoch(p, int64(n)) }))
			wantCheck(t, with(a, func(p *api.Plan) { setKind(p, n) }), false)
		}
		for _, key := range append([]string{"m"}, noNames[1:]...) {
			wrong(t, with(a, func(p *api.Plan) { p.Key = key }))
		}
	}
	for _, s := range stages {
		wrong(t, with(s.plan(), func(p *api.Plan) { p.Kind = 0 }))
		wrong(t, with(s.plan(), func(p *api.Plan) { *p = api.Plan{Kind: p.Kind} }))
		wrong(t, with(s.plan(), func(p *api.Plan) { *p = api.Plan{Kind: p.Kind, Phase: p.Phase, Shard: 2} }))
	}
}

func TestCheckSplits(t *testing.T) {
	for _, phase := range []int{1, 9} {
		for i, keys := range []struct{ in, out []string }{
			{[]string{"-", "--", ".", "a", "g", "gz", "gzzzzzzzzzzzzzzz"}, []string{"h", "h-", "i", "p", "z"}},
			{[]string{"h-", "ha", "i", "m", "o", "ozzzzzzzzzzzzzzz"}, []string{"-", "a", "g", "gzzzzzzzzzzzzzzz", "h", "p", "p-", "q", "z"}},
			{[]string{"p-", "pa", "q", "z", "zzzzzzzzzzzzzzzz"}, []string{"-", "a", "h", "o", "ozzzzzzzzzzzzzzz", "p"}},
		} {
			a := three()
			a.Spans[i].Epoch = map[int]int64{1: 30, 9: 32}[phase]
			a.Plan = api.Plan{Kind: api.PlanSplit, Phase: phase, Shard: a.Spans[i].Shard, Other: 9, Group: a.Spans[i].Group, Epoch: 30}
			for _, key := range keys.in {
				a.Plan.Key = key
				wantCheck(t, a, true)
			}
			for _, key := range append(keys.out, noNames...) {
				a.Plan.Key = key
				wantCheck(t, a, false)
			}
		}
		for n := 1; n <= api.MaxShards; n++ {
			a := many(n)
			s := a.Spans[n-1]
			a.Plan = api.Plan{Kind: api.PlanSplit, Phase: phase, Shard: s.Shard, Other: a.Last, Group: s.Group, Epoch: 50, Key: "z"}
			a.Spans[n-1].Epoch = map[int]int64{1: 50, 9: 52}[phase]
			wantCheck(t, a, n < api.MaxShards)
		}
		checkSplitsOther(t, phase)
	}
}

// Other is Last, and no span's.
func checkSplitsOther(t *testing.T, phase int) {
	t.Helper()
	for _, r := range []struct {
		last, other int
		want        bool
	}{{9, 9, true}, {9, 8, false}, {9, 10, false}, {10, 10, true}, {10, 9, false}, {7, 7, false}, {8, 8, true}, {8, 7, false}, {9, 7, false}, {9, 2, false}, {9, 4, false}, {9, 0, false}, {9, -1, false}, {9, 9 + 1<<32, false}, {top, top, true}, {top, top - 1, false}, {top - 1, top, false}, {top + 1, top + 1, false}, {top, 9, false}, {7, 0, false}, {6, 6, false}} {
		a := planned(api.PlanSplit, phase)
		a.Last, a.Plan.Other = r.last, r.other
		wantCheck(t, a, r.want)
	}
	a := planned(api.PlanSplit, phase)
	a.Last, a.Plan.Other, a.Spans[1].Shard, a.Plan.Shard = 9, 9, 9, 9 // its own
	wantCheck(t, a, false)
	a = planned(api.PlanSplit, phase)
	a.Spans[0].Shard = 9
	wantCheck(t, a, false)
}

func TestCheckMerges(t *testing.T) {
	for _, phase := range []int{1, 9} {
		base := planned(api.PlanMerge, phase)
		for _, r := range []struct {
			epoch int64
			want  bool
		}{{math.MinInt64, false}, {0, false}, {1, true}, {2, true}, {20, true}, {21, true}, {22, true}, {23, true}, {top - 3, true}, {top - 2, true}, {top - 1, false}, {top, false}, {top + 1, false}} {
			wantCheck(t, at(base, 2, func(s *api.Span) { s.Epoch = r.epoch }), r.want)
		}
		for _, epoch := range []int64{1, top - 1, top} { // the one ahead is none of it
			wantCheck(t, at(base, 0, func(s *api.Span) { s.Epoch = epoch }), true)
		}
		for group := range 6 {
			wantCheck(t, at(base, 2, func(s *api.Span) { s.Group = group }), group == 2)
			wantCheck(t, at(base, 0, func(s *api.Span) { s.Group = group }), group >= 1 && group <= 4)
		}
		for i, want := range []bool{true, true, false} { // each span with each other one
			for j := range 3 {
				a := base
				a.Spans = three().Spans
				for k := range a.Spans {
					a.Spans[k].Group = 2
				}
				a.Spans[i].Epoch = map[int]int64{1: 20, 9: 22}[phase]
				a.Plan.Shard, a.Plan.Other = a.Spans[i].Shard, a.Spans[j].Shard
				wantCheck(t, a, want && j == i+1)
				a.Plan.Other = 0
				wantCheck(t, a, false)
			}
		}
		for n := 2; n <= api.MaxShards; n++ {
			a := many(n)
			a.Spans[n-2].Group, a.Spans[n-1].Group = 3, 3
			a.Spans[n-2].Epoch = map[int]int64{1: 70, 9: 72}[phase]
			a.Plan = api.Plan{Kind: api.PlanMerge, Phase: phase, Shard: a.Spans[n-2].Shard, Other: a.Spans[n-1].Shard, Group: 3, Epoch: 70}
			wantCheck(t, a, true)
		}
	}
}

// All small plans of all small maps of two spans.
func TestCheckSmall(t *testing.T) {
	right := map[stage]int{}
	for _, e := range [][2]int64{{1, 1}, {1, 3}, {2, 2}, {3, 1}, {3, 2}, {3, 3}} {
		for groups := range 4 {
			for last := 2; last < 4; last++ {
				a := api.Atlas{Groups: 2, Last: last, Spans: []api.Span{spanOf("", "m", 1, e[0], 1+groups%2), spanOf("m", "", 2, e[1], 1+groups/2)}}
				smallPlans(func(p api.Plan) {
					a.Plan = p
					got := atlas.Check(a)
					if got != paperCheck(a) {
						t.Fatalf("P19.1: Check(%s): %t", told(a), got)
					}
					if got {
						right[stage{p.Kind, p.Phase}]++
					}
				})
			}
		}
	}
	for _, s := range append(stages, stage{0, 0}) {
		if right[s] < 8 {
			t.Errorf("plans of the kind %d in the phase %d: %d are right, the maps are too few", s.kind, s.phase, right[s])
		}
	}
	if len(right) != len(stages)+1 {
		t.Errorf("P19.1: right plans of the kinds and phases %v", right)
	}
}

// smallPlans goes through all plans of small numbers and three keys.
func smallPlans(look func(api.Plan)) {
	for kind := range 5 {
		for _, phase := range []int{0, 1, 2, 3, 4, 9} {
			for rest := range 4 * 4 * 4 * 4 * 4 {
				for _, key := range []string{"", "a", "x"} {
					look(api.Plan{Kind: kind, Phase: phase, Shard: rest % 4, Other: rest / 4 % 4, Group: rest / 16 % 4, Past: rest / 64 % 4, Epoch: int64(rest / 256), Key: key})
				}
			}
		}
	}
}
