package shard_test

import (
	"testing"

	"matins/api"
)

// bare is a shard without jobs and sessions.
func bare(id int, epoch int64, state int, from, to string) api.Shard {
	return api.Shard{Id: id, Epoch: epoch, State: state, From: from, To: to}
}

func TestExamples(t *testing.T) {
	list := []api.Shard{bare(1, 1, api.Serving, "", "")}
	add := cmdAdd(1, 1, "a")
	refuse(t, list, ordCmd(1, 2, add), api.ErrEpoch)
	refuse(t, list, ordCmd(2, 1, add), api.ErrShard)
	got := must(t, list, api.Order{Kind: api.OrdFreeze, Shard: 1, Epoch: 1})
	if frozen := bare(1, 1, api.Frozen, "", ""); !got.same(answer{list: []api.Shard{frozen}, shown: frozen}) {
		t.Errorf("example 1: %s", got.told())
	}
	refuse(t, got.list, ordCmd(1, 1, add), api.ErrFrozen)
	thaw := api.Order{Kind: api.OrdThaw, Shard: 1, Epoch: 1, Past: 3}
	list = []api.Shard{bare(1, 3, api.Serving, "", "")}
	turns(t, got.list, thaw, list)
	idle(t, list, thaw)

	both := []api.Shard{bare(1, 4, api.Serving, "", "m"), bare(2, 4, api.Serving, "m", "")}
	turns(t, list, split(1, 3, 2, 4, "m"), both)
	one := []api.Shard{bare(1, 5, api.Serving, "", ""), bare(2, 4, api.Gone, "m", "")}
	turns(t, both, merge(1, 4, 2, 4, 5), one)

	held := []api.Shard{bare(7, 2, api.Held, "", "")}
	turns(t, nil, install(bare(7, 2, api.Serving, "", "")), held)
	refuse(t, held, ordCmd(7, 2, add), api.ErrFrozen)
	turns(t, held, api.Order{Kind: api.OrdOpen, Shard: 7, Epoch: 2}, []api.Shard{bare(7, 2, api.Serving, "", "")})
}

// A shard goes from one group to another: frozen at its epoch, installed and opened at the next, retired where it was.
func TestMove(t *testing.T) {
	from, to := served(), []api.Shard{shardOf(8, 1, api.Serving, "x", "", "y")}
	was := of(from, 2)
	got := must(t, from, api.Order{Kind: api.OrdFreeze, Shard: 2, Epoch: 5})
	from = got.list
	sent := got.shown
	sent.Epoch++
	to = must(t, to, install(sent)).list
	to = must(t, to, api.Order{Kind: api.OrdOpen, Shard: 2, Epoch: 6}).list
	from = must(t, from, retire(2, 5)).list

	moved := copied(was)
	moved.Epoch = 6
	if !sameShard(of(to, 2), moved) || !sameShard(of(from, 2), shardOf(2, 5, api.Gone, "b", "m")) {
		t.Errorf("P18.3: %s, and %s", told(from), told(to))
	}
	// A command that was done there is known here.
	s := was.Seen[0]
	if kept := do(t, to, ordCmd(2, 6, cmdAdd(s.Client, s.Seq, "e"))); !sameResult(kept.result, s.Result) || !sameShards(kept.list, to) {
		t.Errorf("P18.3: %s", kept.told())
	}
	// What was sent long ago changes nothing any more.
	refuse(t, from, install(was), api.ErrEpoch)
	refuse(t, from, ordCmd(2, 5, cmdAdd(1, 1, "e")), api.ErrShard)
	idle(t, to, install(sent))
	refuse(t, to, install(was), api.ErrEpoch)

	// Given up midway it serves on where it was, at an epoch above the one that was sent.
	back := must(t, served(), api.Order{Kind: api.OrdFreeze, Shard: 2, Epoch: 5}).list
	back = must(t, back, api.Order{Kind: api.OrdThaw, Shard: 2, Epoch: 5, Past: 7}).list
	moved.Epoch = 7
	if !sameShard(of(back, 2), moved) {
		t.Errorf("P18.3: %s", told(back))
	}
}
