package shard_test

import (
	"math"
	"slices"
	"testing"

	"matins/api"
)

func split(id int, epoch int64, other int, past int64, key string) api.Order {
	return api.Order{Kind: api.OrdSplit, Shard: id, Epoch: epoch, Other: other, Past: past, Key: key}
}

// parts are the two shards that come of one which is split.
func parts(s api.Shard, other int, past int64, key string) (api.Shard, api.Shard) {
	lower, upper := copied(s), copied(s)
	lower.Epoch, lower.To = past, key
	upper.Id, upper.Epoch, upper.From = other, past, key
	at := slices.IndexFunc(s.Jobs, func(j api.Job) bool { return j.Name >= key })
	if at < 0 {
		at = len(s.Jobs)
	}
	lower.Jobs, upper.Jobs = s.Jobs[:at], s.Jobs[at:]
	return lower, upper
}

func TestSplit(t *testing.T) {
	ranges := []struct {
		from, to string
		names    []string
		in, out  []string
	}{
		{"", "", []string{"-", "b", "m", "z"}, []string{"-", "--", ".", "a", "b", "b-", "m", "z", "zzzzzzzzzzzzzzzz"}, []string{""}},
		{"b", "", []string{"b", "b-", "m"}, []string{"b-", "b--", "ba", "c", "m", "z"}, []string{"", "-", "a", "azzz", "b"}},
		{"", "m", []string{"a", "l"}, []string{"-", "a", "a-", "l", "lzzzzzzzzzzzzzzz"}, []string{"", "m", "m-", "n", "z"}},
		{"b", "m", []string{"b", "c", "d", "lz"}, []string{"b-", "c", "c-", "d", "e", "l", "lz", "lzz"}, []string{"", "-", "a", "azzz", "b", "m", "m-", "n"}},
		{"b", "m", nil, []string{"b-", "c", "l"}, []string{"", "a", "b", "m", "n"}},
		{"b", "b-", []string{"b"}, nil, []string{"a", "b", "b-", "b.", "c"}},
		{"b", "m", []string{"b"}, []string{"b-", "c"}, []string{"b", "m"}},
		{"b", "m", []string{"lz"}, []string{"lz", "l", "lzz"}, []string{"b", "m"}},
	}
	for _, r := range ranges {
		s := shardOf(4, 5, api.Serving, r.from, r.to, r.names...)
		list := []api.Shard{shardOf(2, 8, api.Serving, "", "", "a", "c"), s, shardOf(7, 5, api.Frozen, "b", "m", "c"), shardOf(8, 5, api.Gone, "", "")}
		for _, key := range r.in {
			for _, other := range []int{1, 3, 5, 9, math.MaxInt} {
				for _, past := range []int64{6, 9, 1 << 40} {
					lower, upper := parts(s, other, past, key)
					turns(t, list, split(4, 5, other, past, key), with(with(list, lower), upper))
				}
			}
		}
		for _, key := range append(r.out, noKeys...) {
			refuse(t, list, split(4, 5, 9, 6, key), api.ErrRange)
		}
	}
}

// What is split keeps its jobs, each in one of the two, and its sessions in both; both serve on.
func TestSplitKeeps(t *testing.T) {
	list := []api.Shard{shardOf(1, 1, api.Serving, "", "", numbered("j", api.MaxJobs)...)}
	got := must(t, list, split(1, 1, 2, 2, "j100"))
	lower, upper := of(got.list, 1), of(got.list, 2)
	if len(lower.Jobs) != 100 || len(upper.Jobs) != 156 || !slices.Equal(slices.Concat(lower.Jobs, upper.Jobs), list[0].Jobs) {
		t.Errorf("P18.3: %s", got.told())
	}
	if !sameBook(lower.Seen, list[0].Seen) || !sameBook(upper.Seen, list[0].Seen) {
		t.Errorf("P18.3: %s", got.told())
	}
	for _, c := range list[0].Seen {
		for id, name := range map[int]string{1: "a", 2: "k"} {
			if kept := do(t, got.list, ordCmd(id, 2, cmdAdd(c.Client, c.Seq, name))); !sameResult(kept.result, c.Result) || !sameShards(kept.list, got.list) {
				t.Errorf("P18.3: client %d's command %d behind a split: %s", c.Client, c.Seq, kept.told())
			}
		}
	}
	refuse(t, got.list, ordCmd(1, 2, cmdAdd(3, 1, "j100")), api.ErrRange)
	refuse(t, got.list, ordCmd(2, 2, cmdAdd(3, 1, "j099")), api.ErrRange)
	must(t, got.list, ordCmd(1, 2, cmdAdd(3, 1, "j0")))
	must(t, got.list, ordCmd(2, 2, cmdAdd(3, 1, "j1000")))
}

func TestSplitErrors(t *testing.T) {
	base := func() scene { return scene{served(), split(2, 5, 9, 6, "d")} }
	crowd := func(live, all int) func(*scene) {
		return func(s *scene) { s.list = fill(s.list, live, all) }
	}
	inOrder(t, base, []fault{
		noShard(2),
		{api.ErrEpoch, wrongEpochs},
		{api.ErrState, []func(*scene){state(2, api.Frozen), state(2, api.Held)}},
		{api.ErrArg, append(orders(setPast, 4, 0, -1, 1<<40+1, math.MaxInt64, math.MinInt64), orders(setOther, 0, -1, math.MinInt, -1<<32+9)...)},
		{api.ErrRange, orders(setKey, "b", "a", "m", "n", "", "D", "d_")},
		{api.ErrFull, []func(*scene){crowd(api.MaxShards, 0), crowd(api.MaxShards, api.MaxGone), crowd(5, api.MaxGone)}},
	})
	inOrder(t, base, []fault{
		noShard(2),
		{api.ErrEpoch, wrongEpochs},
		{api.ErrState, []func(*scene){state(2, api.Frozen), state(2, api.Held)}},
		{api.ErrArg, orders(setPast, 5, 4, 0, -1, 1<<40+1, math.MaxInt64, math.MinInt64)},
		{api.ErrExists, orders(setOther, 1, 2, 3, 4, 6)},
		{api.ErrRange, orders(setKey, "a", "n", "", "D")},
		{api.ErrFull, []func(*scene){crowd(api.MaxShards, 0), crowd(api.MaxShards, api.MaxGone), crowd(5, api.MaxGone)}},
	})
	for _, r := range []struct {
		live, all int
		err       api.Errno
	}{{15, 20, api.OK}, {15, 63, api.OK}, {1, 63, api.OK}, {16, 16, api.ErrFull}, {16, 63, api.ErrFull}, {15, 64, api.ErrFull}, {1, 64, api.ErrFull}} {
		list := fill([]api.Shard{shardOf(2, 5, api.Serving, "b", "m", "c", "e")}, r.live, r.all)
		if got := do(t, list, split(2, 5, 9, 6, "d")); got.result.Err != r.err {
			t.Errorf("P18.1: %d live of %d: OrdSplit: %s", r.live, r.all, got.told())
		}
	}
	last := []api.Shard{shardOf(2, 1<<40, api.Serving, "b", "m")}
	refuse(t, last, split(2, 1<<40, 9, 1<<40+1, "d"), api.ErrArg)
	refuse(t, last, split(2, 1<<40, 9, 1<<40, "d"), api.ErrArg)
}

// Done already, it is OK again, at any Epoch, and whatever has become of the two since, while both have the Epoch Past and Other begins at Key.
func TestSplitAgain(t *testing.T) {
	list := must(t, served(), split(2, 5, 9, 6, "d")).list
	for _, epoch := range []int64{5, 6, 0, -1, math.MaxInt64} {
		idle(t, list, split(2, epoch, 9, 6, "d"))
	}
	for _, first := range liveStates {
		for _, second := range liveStates {
			here := turned(turned(list, 2, func(x *api.Shard) { x.State = first }), 9, func(x *api.Shard) { x.State = second })
			idle(t, here, split(2, 5, 9, 6, "d"))
		}
	}
	later := must(t, list, ordCmd(9, 6, cmdAdd(3, 1, "dd"))).list
	idle(t, later, split(2, 5, 9, 6, "d"))
	full := fill(list, api.MaxShards, api.MaxGone)
	idle(t, full, split(2, 5, 9, 6, "d"))

	refuse(t, list, split(2, 5, 9, 7, "d"), api.ErrEpoch)
	refuse(t, list, split(2, 5, 9, 6, "e"), api.ErrEpoch)
	refuse(t, list, split(2, 6, 9, 6, "e"), api.ErrArg)
	refuse(t, list, split(2, 6, 9, 7, "c"), api.ErrExists)
	refuse(t, list, split(2, 5, 10, 6, "d"), api.ErrEpoch)
	refuse(t, list, split(2, 5, 1, 6, "d"), api.ErrEpoch)
	refuse(t, list, split(1, 5, 9, 6, "d"), api.ErrExists)
	// Where either has another Epoch or is gone it isn't done.
	for _, id := range []int{2, 9} {
		refuse(t, turned(list, id, func(x *api.Shard) { x.Epoch = 7 }), split(2, 5, 9, 6, "d"), api.ErrEpoch)
		here := scene{list: list}
		goes(id)(&here)
		refuse(t, here.list, split(2, 5, 9, 6, "d"), map[int]api.Errno{2: api.ErrShard, 9: api.ErrEpoch}[id])
		missing(id)(&here)
		refuse(t, here.list, split(2, 5, 9, 6, "d"), map[int]api.Errno{2: api.ErrShard, 9: api.ErrEpoch}[id])
	}
	refuse(t, turned(list, 9, func(x *api.Shard) { x.From, x.Jobs = "e", nil }), split(2, 5, 9, 6, "d"), api.ErrEpoch)
}
