package shard_test

import (
	"math"
	"slices"
	"testing"

	"matins/api"
	"matins/seat"
)

func merge(id int, epoch int64, other int, otherEpoch, past int64) api.Order {
	return api.Order{Kind: api.OrdMerge, Shard: id, Epoch: epoch, Other: other, Past: past, State: api.Shard{Epoch: otherEpoch}}
}

// beside are shards that may be merged: 2 at 5 from b to m, and another at 7 from m to z.
func beside(other int) []api.Shard {
	list := []api.Shard{shardOf(2, 5, api.Serving, "b", "m", "b", "c", "lz"), shardOf(4, 5, api.Serving, "m", "", "m"), shardOf(5, 7, api.Frozen, "m", ""), shardOf(6, 7, api.Gone, "m", "")}
	return with(list, shardOf(other, 7, api.Serving, "m", "z", "m", "n"))
}

func TestMerge(t *testing.T) {
	for _, other := range []int{1, 3, 9, math.MaxInt} {
		for _, past := range []int64{8, 9, 1 << 32, 1 << 40} {
			for _, to := range []string{"z", ""} {
				list := turned(beside(other), other, func(x *api.Shard) { x.To = to })
				a, b := of(list, 2), of(list, other)
				whole := copied(a)
				whole.Epoch, whole.To, whole.Jobs = past, to, slices.Concat(a.Jobs, b.Jobs)
				whole.Seen, _ = seat.Join(a.Seen, b.Seen)
				want := with(with(list, whole), shardOf(other, 7, api.Gone, "m", to))
				turns(t, list, merge(2, 5, other, 7, past), want)
				// It is gone with its Epoch: what was sent at that one doesn't bring it back.
				refuse(t, want, install(b), api.ErrEpoch)
			}
		}
	}
	for _, r := range []struct{ a, b []string }{{nil, nil}, {[]string{"c"}, nil}, {nil, []string{"n"}}} {
		list := []api.Shard{shardOf(1, 5, api.Serving, "", "m", r.a...), shardOf(2, 5, api.Serving, "m", "", r.b...)}
		got := must(t, list, merge(1, 5, 2, 5, 6))
		if !slices.Equal(of(got.list, 1).Jobs, jobsOf(append(r.a, r.b...)...)) || len(of(got.list, 2).Jobs) > 0 {
			t.Errorf("P18.3: %s", got.told())
		}
	}
}

// Of a client with sessions on both sides the one with the greater Seq is kept, the shard's own if they are the same.
func TestMergeSessions(t *testing.T) {
	list := []api.Shard{{Id: 1, Epoch: 2, State: api.Serving, To: "m"}, {Id: 2, Epoch: 2, State: api.Serving, From: "m"}}
	list[0].Seen = []api.Seen{seenOf(1, 5, 1), seenOf(2, 5, 2), seenOf(3, 5, 3), seenOf(7, 1, 4)}
	list[1].Seen = []api.Seen{seenOf(1, 4, 11), seenOf(2, 5, 12), seenOf(3, 6, 13), seenOf(9, 1, 14)}
	got := must(t, list, merge(1, 2, 2, 2, 3))
	want := []api.Seen{seenOf(1, 5, 1), seenOf(2, 5, 2), seenOf(3, 6, 13), seenOf(7, 1, 4), seenOf(9, 1, 14)}
	if !sameBook(of(got.list, 1).Seen, want) || len(of(got.list, 2).Seen) > 0 {
		t.Errorf("P18.3: %s", got.told())
	}
	for _, s := range want {
		if kept := do(t, got.list, ordCmd(1, 3, cmdAdd(s.Client, s.Seq, "a"))); !sameResult(kept.result, s.Result) || !sameShards(kept.list, got.list) {
			t.Errorf("P18.3: client %d's command %d behind a merge: %s", s.Client, s.Seq, kept.told())
		}
	}
	refuse(t, got.list, ordCmd(1, 3, cmdAdd(1, 4, "a")), api.ErrStale)
	refuse(t, got.list, ordCmd(1, 3, cmdAdd(3, 5, "a")), api.ErrStale)
	must(t, got.list, ordCmd(1, 3, cmdAdd(3, 7, "a")))
	for _, alone := range []int{0, 1} {
		here := copies(list)
		here[1-alone].Seen = nil
		if got := must(t, here, merge(1, 2, 2, 2, 3)); !sameBook(of(got.list, 1).Seen, list[alone].Seen) {
			t.Errorf("P18.3: %s", got.told())
		}
	}
}

func TestMergeErrors(t *testing.T) {
	base := func() scene { return scene{beside(3), merge(2, 5, 3, 7, 8)} }
	otherEpochs := orders(func(o *api.Order, n int64) { o.State.Epoch = n }, 6, 5, 8, 0, -1, math.MaxInt64)
	states := []func(*scene){state(2, api.Frozen), state(2, api.Held), state(3, api.Frozen), state(3, api.Held)}
	pasts := orders(setPast, 7, 6, 1, 0, -1, 1<<40+1, math.MaxInt64, math.MinInt64)
	ranges := []func(*scene){
		change(2, func(x *api.Shard) { x.To = "" }), change(2, func(x *api.Shard) { x.To = "lzz" }), change(2, func(x *api.Shard) { x.To = "m-" }),
		change(3, func(x *api.Shard) { x.From = "l" }), change(3, func(x *api.Shard) { x.From, x.Jobs = "n", nil }), change(3, func(x *api.Shard) { x.From, x.To, x.Jobs = "", "b", nil }),
		func(s *scene) {
			change(2, func(x *api.Shard) { x.To = "" })(s)
			change(3, func(x *api.Shard) { x.From = "" })(s)
		},
	}
	full := []func(*scene){
		change(2, func(x *api.Shard) { x.Jobs = jobsOf(numbered("c", 255)...) }), change(3, func(x *api.Shard) { x.Jobs = jobsOf(numbered("n", 254)...) }),
		change(2, func(x *api.Shard) { x.Jobs = jobsOf(numbered("c", 256)...) }),
	}
	inOrder(t, base, []fault{
		noShard(2),
		{api.ErrEpoch, wrongEpochs},
		{api.ErrShard, append(orders(setOther, 2, 6, 99, 0, -1, math.MaxInt, math.MinInt, 3+1<<32), goes(3), missing(3))},
	})
	inOrder(t, base, []fault{noShard(2), {api.ErrEpoch, wrongEpochs}, {api.ErrEpoch, otherEpochs}, {api.ErrState, states}, {api.ErrArg, pasts}, {api.ErrRange, ranges}})
	inOrder(t, base, []fault{noShard(2), {api.ErrEpoch, wrongEpochs}, {api.ErrEpoch, otherEpochs}, {api.ErrState, states}, {api.ErrArg, pasts}, {api.ErrFull, full}})
	inOrder(t, base, []fault{{api.ErrRange, ranges[:2]}, {api.ErrFull, full[1:2]}})
	for _, r := range [][]int{{0, 256}, {256, 0}, {128, 128}, {255, 1}, {1, 255}, {1, 256}, {256, 1}, {255, 2}, {128, 129}, {256, 256}} {
		list := []api.Shard{shardOf(1, 5, api.Serving, "", "m", numbered("c", r[0])...), shardOf(2, 5, api.Serving, "m", "", numbered("n", r[1])...)}
		if r[0]+r[1] > api.MaxJobs {
			refuse(t, list, merge(1, 5, 2, 5, 6), api.ErrFull)
			continue
		}
		if got := must(t, list, merge(1, 5, 2, 5, 6)); len(of(got.list, 1).Jobs) != api.MaxJobs {
			t.Errorf("P18.1: %v jobs: %s", r, got.told())
		}
	}
}

// Past is above both Epochs, and at most 2^40; the shards go upwards, not downwards.
func TestMergeEpochs(t *testing.T) {
	for _, a := range []int64{1, 5, 7, 1<<40 - 1, 1 << 40} {
		for _, b := range []int64{1, 6, 7, 1<<40 - 1, 1 << 40} {
			list := []api.Shard{shardOf(1, a, api.Serving, "", "m", "c"), shardOf(2, b, api.Serving, "m", "", "n")}
			top := max(a, b)
			refuse(t, list, merge(1, a, 2, b, top), api.ErrArg)
			refuse(t, list, merge(1, a, 2, b, min(a, b)), api.ErrArg)
			if top == 1<<40 {
				refuse(t, list, merge(1, a, 2, b, top+1), api.ErrArg)
				continue
			}
			must(t, list, merge(1, a, 2, b, top+1))
			refuse(t, list, merge(2, b, 1, a, top+1), api.ErrRange)
		}
	}
}

// Merging makes no shard more: there is room for it always.
func TestMergeAtLimits(t *testing.T) {
	list := fill(beside(3), api.MaxShards, api.MaxGone)
	got := must(t, list, merge(2, 5, 3, 7, 8))
	if len(got.list) != api.MaxGone || of(got.list, 3).State != api.Gone {
		t.Errorf("P18.1: %s", got.told())
	}
}

// Done already, it is OK again while the shard has the Epoch Past and there is no shard Other, be it gone or never there.
func TestMergeAgain(t *testing.T) {
	list := must(t, beside(3), merge(2, 5, 3, 7, 8)).list
	for _, epoch := range []int64{5, 8, 0, -1, math.MaxInt64} {
		for _, other := range []int{3, 6, 99, 0, -1, math.MinInt} {
			idle(t, list, merge(2, epoch, other, 7, 8))
			idle(t, list, merge(2, epoch, other, -3, 8))
		}
	}
	for _, was := range liveStates {
		idle(t, turned(list, 2, func(x *api.Shard) { x.State = was }), merge(2, 5, 3, 7, 8))
	}
	idle(t, fill(list, api.MaxShards, api.MaxGone), merge(2, 5, 3, 7, 8))
	refuse(t, list, merge(2, 5, 3, 7, 9), api.ErrEpoch)
	refuse(t, list, merge(2, 8, 3, 7, 9), api.ErrShard)
	refuse(t, list, merge(2, 5, 4, 5, 8), api.ErrEpoch)
	refuse(t, list, merge(2, 5, 2, 5, 8), api.ErrEpoch)
	refuse(t, list, merge(2, 8, 2, 8, 8), api.ErrShard)
	refuse(t, list, merge(3, 7, 99, 7, 7), api.ErrShard)
}
