package mover_test

import (
	"math"
	"slices"
	"testing"

	"matins/api"
)

// outcome is what an answer means: what the mover has then, by a word, and what is done.
type outcome struct {
	has  string // "have": what it had; "told": what was answered; "known": the shard's numbers alone; "gone": those, and that it is gone; "": nothing
	done int
}

// hears is, of an order in a phase, what each error means; what isn't named means nothing yet.
type hears struct {
	s      stage
	haves  []api.Shard // with which that order goes out
	kind   int
	answer map[api.Errno]outcome
}

func hearings() []hears {
	var live, gone, shard []api.Shard
	for _, state := range states {
		shard = append(shard, theShard(state)...)
		if state != api.Gone {
			live = append(live, theShard(state)...)
		}
	}
	gone = theShard(api.Gone)
	others, some := each(7, strangers()), each(7, all())
	freezing := map[api.Errno]outcome{api.OK: {"told", 0}}
	undoing := map[api.Errno]outcome{api.OK: {"told", 0}, api.ErrEpoch: {"known", 0}}
	thawing := map[api.Errno]outcome{api.OK: {"", 9}}
	return []hears{
		{stage{1, 1}, others, api.OrdFreeze, freezing},
		{stage{1, 1}, shard, api.OrdInstall, map[api.Errno]outcome{api.OK: {"have", 1}, api.ErrFull: {"have", -1}, api.ErrArg: {"have", -1}, api.ErrState: {"have", -1}, api.ErrEpoch: {"have", -1}}},
		{stage{1, 2}, some, api.OrdOpen, map[api.Errno]outcome{api.OK: {"", 2}}},
		{stage{1, 3}, some, api.OrdRetire, map[api.Errno]outcome{api.OK: {"have", 3}, api.ErrEpoch: {"have", 3}}},
		{stage{1, 9}, others, api.OrdFreeze, undoing},
		{stage{1, 9}, live, api.OrdRetire, map[api.Errno]outcome{api.OK: {"gone", 0}, api.ErrEpoch: {"gone", 0}}},
		{stage{1, 9}, gone, api.OrdThaw, thawing},
		{stage{2, 1}, some, api.OrdSplit, map[api.Errno]outcome{api.OK: {"have", 1}, api.ErrFull: {"", -1}}},
		{stage{2, 9}, others, api.OrdFreeze, undoing},
		{stage{2, 9}, shard, api.OrdThaw, thawing},
		{stage{3, 1}, some, api.OrdMerge, map[api.Errno]outcome{api.OK: {"have", 1}}},
		{stage{3, 9}, others, api.OrdFreeze, undoing},
		{stage{3, 9}, shard, api.OrdThaw, thawing},
	}
}

// each is each n-th of a list, the first one with them.
func each(n int, list []api.Shard) []api.Shard {
	var some []api.Shard
	for i := 0; i < len(list); i += n {
		some = append(some, list[i])
	}
	return some
}

// hasOf is what an outcome's word stands for.
func hasOf(word string, have, told api.Shard) api.Shard {
	switch word {
	case "have":
		return have
	case "told":
		return told
	case "known":
		return api.Shard{Id: 2, Epoch: 20}
	case "gone":
		return api.Shard{Id: 2, Epoch: 20, State: 4}
	}
	return api.Shard{}
}

// toldShards are what may be answered: nothing, the shard, and others; the call doesn't look at them.
func toldShards() []api.Shard {
	return []api.Shard{{}, shardOf(2, 20, api.Frozen), shardOf(2, 21, api.Gone), shardOf(7, 5, api.Serving), {Id: -1, Epoch: -1, State: -1, From: "?", Jobs: []api.Job{{}}}}
}

func TestHeard(t *testing.T) {
	for _, h := range hearings() {
		a := h.s.plan()
		for _, have := range h.haves {
			if x := next(t, a, have); x.order.Kind != h.kind {
				t.Fatalf("P20.1: Next of %s, has %s: %s", toldMap(a), toldShard(have), x.told())
			}
			for _, err := range slices.Concat(errnos, []api.Errno{-1, 5, 23, 170 + 256, 171 + 1<<32, 1 << 32, math.MaxInt, math.MinInt}) {
				o, ok := h.answer[err]
				if !ok {
					o = outcome{"have", 0}
				}
				told := []api.Shard{{}, shardOf(2, 20, api.Frozen)}
				if len(have.Jobs) > 0 && have.State == api.Frozen {
					told = toldShards()
				}
				for _, s := range told {
					means(t, a, have, resultOf(err), s, hasOf(o.has, have, s), o.done)
				}
				means(t, a, have, api.Result{Err: err}, told[1], hasOf(o.has, have, told[1]), o.done)
			}
		}
	}
}

// What an answer's shard is plays no part but behind a freeze; there it is what the mover has, whatever it is.
func TestHeardFreeze(t *testing.T) {
	for _, s := range []stage{{1, 1}, {1, 9}, {2, 9}, {3, 9}} {
		for _, have := range []api.Shard{{}, shardOf(2, 19, api.Frozen), shardOf(4, 20, api.Gone)} {
			for _, told := range all() {
				means(t, s.plan(), have, api.Result{}, told, told, 0)
				means(t, s.plan(), have, resultOf(api.ErrShard), told, have, 0)
			}
		}
	}
}

// The numbers alone are those of the plan.
func TestHeardNumbers(t *testing.T) {
	for _, shard := range []int{1, 2, 8, 1 << 33, top} {
		for _, epoch := range []int64{1, 20, 1 << 32, top - 2} {
			a := planned(1, 9)
			a.Last = top
			a.Spans[1].Shard, a.Spans[1].Epoch = shard, epoch+2
			a.Plan.Shard, a.Plan.Epoch = shard, epoch
			known := api.Shard{Id: shard, Epoch: epoch}
			gone := api.Shard{Id: shard, Epoch: epoch, State: api.Gone}
			means(t, a, api.Shard{}, resultOf(api.ErrEpoch), shardOf(2, 20, api.Frozen), known, 0)
			goesOut(t, a, known, 3, retire(shard, epoch+1))
			for _, err := range []api.Errno{api.OK, api.ErrEpoch} {
				means(t, a, known, resultOf(err), shardOf(2, 20, api.Frozen), gone, 0)
				means(t, a, shardOf(shard, epoch, api.Frozen), resultOf(err), shardOf(2, 20, api.Frozen), gone, 0)
			}
			goesOut(t, a, gone, 2, thaw(shard, epoch, epoch+2))
			means(t, a, gone, resultOf(api.OK), gone, api.Shard{}, 9)
		}
	}
}
