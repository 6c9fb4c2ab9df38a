package mover_test

import (
	"fmt"
	"math"
	"testing"

	"matins/api"
	"matins/atlas"
	"matins/mover"
)

const top = 1 << 40

func spanOf(from, to string, shard int, epoch int64, group int) api.Span {
	return api.Span{From: from, To: to, Shard: shard, Epoch: epoch, Group: group}
}

// three is a right map of three spans, without a plan.
func three() api.Atlas {
	return api.Atlas{Groups: 4, Last: 9, Spans: []api.Span{spanOf("", "h", 4, 10, 1), spanOf("h", "p", 2, 20, 2), spanOf("p", "", 7, 5, 2)}}
}

// planned is the map of three with a plan of its second span, in a phase that there is.
func planned(kind, phase int) api.Atlas {
	a := three()
	s := &a.Spans[1]
	a.Plan = api.Plan{Kind: kind, Phase: phase, Shard: 2, Epoch: 20, Group: 2}
	switch phase {
	case 2, 3:
		s.Epoch, s.Group = 21, 3
	case 9:
		s.Epoch = 22
	}
	switch kind {
	case api.PlanMove:
		a.Plan.Group, a.Plan.Past = 3, 2
	case api.PlanSplit:
		a.Plan.Other, a.Plan.Key = 9, "m"
	case api.PlanMerge:
		a.Plan.Other = 7
	}
	return a
}

// stage is a Kind of plan in a phase.
type stage struct{ kind, phase int }

// stages are all that there are.
var stages = []stage{{1, 1}, {1, 2}, {1, 3}, {1, 9}, {2, 1}, {2, 9}, {3, 1}, {3, 9}}

func (s stage) plan() api.Atlas { return planned(s.kind, s.phase) }

// states are those of shards, and numbers that are none.
var states = []int{api.Serving, api.Frozen, api.Held, api.Gone, 0, 5, -1, -4, 256 + 4, math.MaxInt, math.MinInt}

// strangers are what isn't the shard 2 at the epoch 20: nothing, the shard at another epoch, and other shards, in each State.
func strangers() []api.Shard {
	all := []api.Shard{{}}
	for _, state := range states {
		for _, epoch := range []int64{19, 21, 22, 0, 1, 10, 5, -20, 20 + 1<<32, top, math.MaxInt64, math.MinInt64} {
			all = append(all, shardOf(2, epoch, state), api.Shard{Id: 2, Epoch: epoch, State: state})
		}
		for _, id := range []int{0, 1, 3, 4, 7, 9, -2, 20, 2 + 1<<32, math.MaxInt, math.MinInt} {
			all = append(all, shardOf(id, 20, state), api.Shard{Id: id, Epoch: 20, State: state})
		}
		all = append(all, shardOf(4, 10, state), shardOf(7, 5, state), shardOf(20, 2, state), api.Shard{State: state})
	}
	return all
}

// theShard is the shard 2 at the epoch 20 in a State: whole, and its numbers alone.
func theShard(state int) []api.Shard {
	return []api.Shard{shardOf(2, 20, state), {Id: 2, Epoch: 20, State: state}}
}

// all is whatever the mover may have.
func all() []api.Shard {
	list := strangers()
	for _, state := range states {
		list = append(list, theShard(state)...)
	}
	return list
}

func freeze(shard int, epoch int64) api.Order {
	return api.Order{Kind: api.OrdFreeze, Shard: shard, Epoch: epoch}
}

func thaw(shard int, epoch, past int64) api.Order {
	return api.Order{Kind: api.OrdThaw, Shard: shard, Epoch: epoch, Past: past}
}

func install(s api.Shard) api.Order { return api.Order{Kind: api.OrdInstall, State: s} }

func open(shard int, epoch int64) api.Order {
	return api.Order{Kind: api.OrdOpen, Shard: shard, Epoch: epoch}
}

func retire(shard int, epoch int64) api.Order {
	return api.Order{Kind: api.OrdRetire, Shard: shard, Epoch: epoch}
}

func split(shard int, epoch int64, other int, past int64, key string) api.Order {
	return api.Order{Kind: api.OrdSplit, Shard: shard, Epoch: epoch, Other: other, Past: past, Key: key}
}

func merge(shard int, epoch int64, other int, past, others int64) api.Order {
	return api.Order{Kind: api.OrdMerge, Shard: shard, Epoch: epoch, Other: other, Past: past, State: api.Shard{Epoch: others}}
}

// held is a shard as it is installed.
func held(s api.Shard, epoch int64) api.Shard {
	s.Epoch, s.State = epoch, api.Held
	return s
}

// Each row of the table, with whatever the mover has.
func TestNextMove(t *testing.T) {
	for _, have := range strangers() {
		goesOut(t, planned(1, 1), have, 2, freeze(2, 20))
		goesOut(t, planned(1, 9), have, 2, freeze(2, 20))
	}
	for _, state := range states {
		for _, have := range theShard(state) {
			goesOut(t, planned(1, 1), have, 3, install(held(have, 21)))
			if state == api.Gone {
				goesOut(t, planned(1, 9), have, 2, thaw(2, 20, 22))
			} else {
				goesOut(t, planned(1, 9), have, 3, retire(2, 21))
			}
		}
	}
	for _, have := range all() {
		goesOut(t, planned(1, 2), have, 3, open(2, 21))
		goesOut(t, planned(1, 3), have, 2, retire(2, 20))
	}
}

func TestNextSplitMerge(t *testing.T) {
	for _, have := range all() {
		goesOut(t, planned(2, 1), have, 2, split(2, 20, 9, 21, "m"))
		goesOut(t, planned(3, 1), have, 2, merge(2, 20, 7, 21, 5))
	}
	for kind := 2; kind <= 3; kind++ {
		for _, have := range strangers() {
			goesOut(t, planned(kind, 9), have, 2, freeze(2, 20))
		}
		for _, state := range states {
			for _, have := range theShard(state) {
				goesOut(t, planned(kind, 9), have, 2, thaw(2, 20, 22))
			}
		}
	}
}

// What is installed is the shard as it was answered: whatever it is, the Epoch and the State alone are others.
func TestNextInstall(t *testing.T) {
	full := shardOf(2, 20, api.Frozen)
	full.From, full.To = "", ""
	for i := range api.MaxJobs {
		full.Jobs = append(full.Jobs, jobOf(fmt.Sprintf("x%03d", i)))
	}
	for i := range api.MaxClients {
		full.Seen = append(full.Seen, api.Seen{Client: 10 + i, Seq: int64(i), Result: api.Result{Jobs: full.Jobs[i : i+i%4]}})
	}
	odd := api.Shard{Id: 2, Epoch: 20, State: 77, From: "Z z", To: "a", Jobs: []api.Job{{}, {Name: "b"}, {Name: "a", Mark: -1}}, Seen: []api.Seen{{}, {Client: -1, Result: api.Result{Err: 999, Time: -1, Jobs: []api.Job{{}}}}}}
	empty := api.Shard{Id: 2, Epoch: 20, State: api.Frozen, From: "h", To: "p", Jobs: []api.Job{}, Seen: []api.Seen{{Client: 1, Seq: 1, Result: api.Result{Jobs: []api.Job{}}}}}
	for _, have := range []api.Shard{full, odd, empty} {
		goesOut(t, planned(1, 1), have, 3, install(held(have, 21)))
	}
}

// The group that had the shard, and the one that is to have it.
func TestNextGroups(t *testing.T) {
	for past := 1; past <= api.MaxGroups; past++ {
		for group := 1; group <= api.MaxGroups; group++ {
			if group == past {
				continue
			}
			of := func(phase int) api.Atlas {
				a := planned(1, phase)
				a.Groups, a.Plan.Past, a.Plan.Group = api.MaxGroups, past, group
				a.Spans[1].Group = past
				if phase == 2 || phase == 3 {
					a.Spans[1].Group = group
				}
				return a
			}
			the, gone := shardOf(2, 20, api.Frozen), api.Shard{Id: 2, Epoch: 20, State: api.Gone}
			goesOut(t, of(1), api.Shard{}, past, freeze(2, 20))
			goesOut(t, of(1), the, group, install(held(the, 21)))
			goesOut(t, of(2), the, group, open(2, 21))
			goesOut(t, of(3), the, past, retire(2, 20))
			goesOut(t, of(9), api.Shard{}, past, freeze(2, 20))
			goesOut(t, of(9), the, group, retire(2, 21))
			goesOut(t, of(9), gone, past, thaw(2, 20, 22))
		}
		for kind := 2; kind <= 3; kind++ {
			of := func(phase int) api.Atlas {
				a := planned(kind, phase)
				a.Groups, a.Plan.Group, a.Spans[1].Group, a.Spans[2].Group = api.MaxGroups, past, past, past
				return a
			}
			if kind == 2 {
				goesOut(t, of(1), api.Shard{}, past, split(2, 20, 9, 21, "m"))
			} else {
				goesOut(t, of(1), api.Shard{}, past, merge(2, 20, 7, 21, 5))
			}
			goesOut(t, of(9), api.Shard{}, past, freeze(2, 20))
			goesOut(t, of(9), shardOf(2, 20, api.Frozen), past, thaw(2, 20, 22))
		}
	}
}

// Up to the last Epoch that a plan may have.
func TestNextEpochs(t *testing.T) {
	for _, e := range []int64{1, 2, 255, 1 << 31, 1<<32 - 1, 1 << 32, top - 3, top - 2} {
		of := func(s stage) api.Atlas {
			a := s.plan()
			a.Spans[1].Epoch += e - 20
			a.Plan.Epoch = e
			return a
		}
		the, gone := shardOf(2, e, api.Frozen), api.Shard{Id: 2, Epoch: e, State: api.Gone}
		for _, have := range []api.Shard{{}, shardOf(2, e+1, api.Frozen), shardOf(2, e+2, api.Frozen), shardOf(2, e-1, api.Frozen)} {
			goesOut(t, of(stage{1, 1}), have, 2, freeze(2, e))
			goesOut(t, of(stage{1, 9}), have, 2, freeze(2, e))
			goesOut(t, of(stage{2, 9}), have, 2, freeze(2, e))
			goesOut(t, of(stage{3, 9}), have, 2, freeze(2, e))
		}
		goesOut(t, of(stage{1, 1}), the, 3, install(held(the, e+1)))
		goesOut(t, of(stage{1, 2}), the, 3, open(2, e+1))
		goesOut(t, of(stage{1, 3}), the, 2, retire(2, e))
		goesOut(t, of(stage{1, 9}), the, 3, retire(2, e+1))
		goesOut(t, of(stage{1, 9}), gone, 2, thaw(2, e, e+2))
		goesOut(t, of(stage{2, 1}), the, 2, split(2, e, 9, e+1, "m"))
		goesOut(t, of(stage{2, 9}), the, 2, thaw(2, e, e+2))
		goesOut(t, of(stage{3, 1}), the, 2, merge(2, e, 7, max(e, 5)+1, 5))
		goesOut(t, of(stage{3, 9}), the, 2, thaw(2, e, e+2))
	}
}

// Either span's Epoch may be the greater one; the span ahead plays no part.
func TestNextMergeEpochs(t *testing.T) {
	for _, r := range [][3]int64{{20, 5, 21}, {5, 20, 21}, {20, 20, 21}, {20, 19, 21}, {19, 20, 21}, {1, 1, 2}, {1, 2, 3}, {2, 1, 3}, {top - 2, 1, top - 1}, {1, top - 2, top - 1}, {top - 2, top - 2, top - 1}, {1 << 32, 5, 1<<32 + 1}, {5, 1 << 32, 1<<32 + 1}} {
		for _, ahead := range []int64{1, 20, top - 1, top} {
			a := planned(3, 1)
			a.Plan.Epoch = r[0]
			a.Spans[0].Epoch, a.Spans[1].Epoch, a.Spans[2].Epoch = ahead, r[0], r[1]
			goesOut(t, a, api.Shard{}, 2, merge(2, r[0], 7, r[2], r[1]))
			goesOut(t, a, shardOf(2, r[0], api.Frozen), 2, merge(2, r[0], 7, r[2], r[1]))
		}
	}
}

// many is a right map of n spans, from the Shard 6 to the Shard n + 5, in an order that rises and falls, their Epochs unlike.
func many(n int) api.Atlas {
	a := api.Atlas{Groups: 3, Last: n + 5}
	for i := range n {
		a.Spans = append(a.Spans, spanOf(string(rune('a'+i-1)), string(rune('a'+i)), 6+(i*5+3)%n, int64(10+(i*7)%n), 1))
		if n%5 == 0 {
			a.Spans[i].Shard = 6 + i
		}
	}
	a.Spans[0].From, a.Spans[n-1].To = "", ""
	return a
}

// Wherever the plan's span stands.
func TestNextPlaces(t *testing.T) {
	for n := 1; n <= api.MaxShards; n++ {
		for i := range n {
			a := many(n)
			s := a.Spans[i]
			move, err := atlas.Begin(a, api.Plan{Kind: api.PlanMove, Shard: s.Shard, Group: 3})
			began(t, err)
			the := shardOf(s.Shard, s.Epoch, api.Frozen)
			goesOut(t, move, api.Shard{}, 1, freeze(s.Shard, s.Epoch))
			goesOut(t, move, the, 3, install(held(the, s.Epoch+1)))
			for _, o := range a.Spans {
				if o.Shard != s.Shard {
					goesOut(t, move, shardOf(o.Shard, o.Epoch, api.Frozen), 1, freeze(s.Shard, s.Epoch))
				}
			}
			if n < api.MaxShards {
				parted, err := atlas.Begin(a, api.Plan{Kind: api.PlanSplit, Shard: s.Shard, Key: s.From + "-"})
				began(t, err)
				goesOut(t, parted, api.Shard{}, 1, split(s.Shard, s.Epoch, n+6, s.Epoch+1, s.From+"-"))
			}
			if i+1 < n {
				joined, err := atlas.Begin(a, api.Plan{Kind: api.PlanMerge, Shard: s.Shard})
				began(t, err)
				up := a.Spans[i+1]
				goesOut(t, joined, api.Shard{}, 1, merge(s.Shard, s.Epoch, up.Shard, max(s.Epoch, up.Epoch)+1, up.Epoch))
			}
		}
	}
}

func began(t *testing.T, err api.Errno) {
	t.Helper()
	if err != api.OK {
		t.Fatalf("the plan doesn't begin: %d", err)
	}
}

// Without a plan, and of a map that isn't right, there is no order.
func TestNextNone(t *testing.T) {
	for _, a := range []api.Atlas{three(), many(1), many(api.MaxShards)} {
		for _, have := range each(5, all()) {
			idle(t, a, have)
		}
	}
	haves := append([]api.Shard{{}, shardOf(4, 10, api.Frozen)}, theShard(api.Frozen)...)
	haves = append(haves, theShard(api.Gone)...)
	idleAll := func(a api.Atlas) {
		t.Helper()
		for _, have := range haves {
			idle(t, a, have)
		}
	}
	idleAll(api.Atlas{})
	for _, s := range append(stages, stage{}) {
		sets := []func(*api.Atlas){
			func(a *api.Atlas) { a.Groups = 0 }, func(a *api.Atlas) { a.Groups = 1 }, func(a *api.Atlas) { a.Groups = api.MaxGroups + 1 },
			func(a *api.Atlas) { a.Last = 6 }, func(a *api.Atlas) { a.Last = top + 1 }, func(a *api.Atlas) { a.Spans = nil }, func(a *api.Atlas) { a.Spans = a.Spans[:2] },
			func(a *api.Atlas) { a.Spans = a.Spans[1:] }, func(a *api.Atlas) { a.Spans[0].To = "g" }, func(a *api.Atlas) { a.Spans[2].To = "z" }, func(a *api.Atlas) { a.Spans[0].Shard = 2 },
			func(a *api.Atlas) { a.Spans[0].Epoch = 0 }, func(a *api.Atlas) { a.Spans[2].Group = 5 }, func(a *api.Atlas) { a.Plan.Kind = 4 }, func(a *api.Atlas) { a.Plan.Kind = -1 },
			func(a *api.Atlas) { a.Plan.Phase = 4 }, func(a *api.Atlas) { a.Plan.Phase = 10 }, func(a *api.Atlas) { a.Plan.Phase = -1 }, func(a *api.Atlas) { a.Plan.Shard = 3 },
			func(a *api.Atlas) { a.Plan.Epoch = 19 }, func(a *api.Atlas) { a.Plan.Epoch = top - 1 }, func(a *api.Atlas) { a.Plan.Past = 5 }, func(a *api.Atlas) { a.Plan.Other = 8 }, func(a *api.Atlas) { a.Plan.Key = "q" },
		}
		for i, set := range sets {
			a := three()
			if s.kind != 0 {
				a = s.plan()
			}
			set(&a)
			if atlas.Check(a) {
				t.Fatalf("%v, %d: a right map: %s", s, i, toldMap(a))
			}
			idleAll(a)
		}
		a := three()
		a.Plan.Phase = 9 // a field of a plan where there is none
		idleAll(a)
		if s.kind != 0 {
			a = s.plan()
			a.Plan.Kind = 0
			idleAll(a)
		}
	}
}

// No matter what else is around: all small plans of small maps, with whatever the mover has.
func TestNextSmall(t *testing.T) {
	rows := map[int]int{}
	haves := []api.Shard{{}}
	for id := 1; id <= 2; id++ {
		for epoch := int64(1); epoch <= 3; epoch++ {
			for _, state := range []int{2, 4} {
				haves = append(haves, api.Shard{Id: id, Epoch: epoch, State: state, From: "h", Jobs: []api.Job{{Name: "k"}}})
			}
		}
	}
	look := func(a api.Atlas) {
		for _, have := range haves {
			row := paperRowOf(a, have)
			rows[row]++
			if got := ofNext(mover.Next(a, have)); !got.same(ofNext(paperNext(a, have))) {
				t.Fatalf("P20.1: Next of %s, has %s: %s", toldMap(a), toldShard(have), got.told())
			}
			for _, err := range errnos {
				if row == 0 && err != api.OK {
					continue
				}
				r, s := api.Result{Err: err}, api.Shard{Id: 9, Epoch: 9}
				if got := ofHeard(mover.Heard(a, have, r, s)); !got.same(ofHeard(paperHeard(a, have, r, s))) {
					t.Fatalf("P20.2: Heard of %s, has %s, %d: %s", toldMap(a), toldShard(have), err, got.told())
				}
			}
		}
	}
	smallMaps(look)
	for row := range 11 {
		if rows[row] < 12 {
			t.Errorf("the row %d of the table: met %d times, the maps are too few", row, rows[row])
		}
	}
}

// smallMaps goes through small maps of two spans, with small plans that are nearly right.
func smallMaps(look func(api.Atlas)) {
	for _, e := range [][2]int64{{1, 1}, {1, 3}, {3, 1}, {2, 2}} {
		for _, groups := range [][2]int{{1, 1}, {1, 2}, {2, 2}} {
			for kind := range 5 {
				for _, phase := range []int{0, 1, 2, 3, 9} {
					for rest := range 3 * 3 * 3 * 3 * 3 {
						p := api.Plan{Kind: kind, Phase: phase, Shard: rest % 3, Other: 1 + rest/3%3, Group: rest / 9 % 3, Past: rest / 27 % 3, Epoch: int64(1 + rest/81)}
						if kind == api.PlanMove {
							p.Other = 0
						}
						if kind == api.PlanSplit {
							p.Key = "k-"
							if p.Shard == 2 {
								p.Key = "z"
							}
						}
						look(api.Atlas{Groups: 2, Last: 3, Plan: p, Spans: []api.Span{spanOf("", "m", 1, e[0], groups[0]), spanOf("m", "", 2, e[1], groups[1])}})
					}
				}
			}
		}
	}
}
