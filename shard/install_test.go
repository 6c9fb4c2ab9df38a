package shard_test

import (
	"math"
	"testing"

	"matins/api"
)

func install(s api.Shard) api.Order { return api.Order{Kind: api.OrdInstall, State: s} }

func retire(id int, epoch int64) api.Order {
	return api.Order{Kind: api.OrdRetire, Shard: id, Epoch: epoch}
}

// rooms are groups with a shard 3 in a state (0: without it), by how much room is left.
func rooms(state int) map[string][]api.Shard {
	var list []api.Shard
	live := 0
	if state != 0 {
		list = []api.Shard{shardOf(3, 5, state, "b", "m", "b", "c")}
	}
	if state != 0 && state != api.Gone {
		live = 1
	}
	list = append([]api.Shard{shardOf(1, 9, api.Gone, "", "")}, list...)
	return map[string][]api.Shard{
		"room":         list,
		"one left":     fill(list, api.MaxShards-1, api.MaxGone-1),
		"live are all": fill(list, api.MaxShards, 20),
		"gone are all": fill(list, max(live, 2), api.MaxGone),
		"none left":    fill(list, api.MaxShards, api.MaxGone),
	}
}

// isFull tells whether a group has no room for a shard of an Id that it doesn't hold.
func isFull(room string, known bool) bool {
	switch room {
	case "live are all", "none left":
		return true
	case "gone are all":
		return !known
	}
	return false
}

// wantInstall is what is answered to a shard 3 of an Epoch where one of the Epoch 5 stands in a state.
func wantInstall(state int, epoch int64, room string) (changes bool, err api.Errno) {
	switch {
	case state == 0 && isFull(room, false):
		return false, api.ErrFull
	case state == 0:
		return true, api.OK
	case state == api.Gone && epoch <= 5:
		return false, api.ErrEpoch
	case state == api.Gone && isFull(room, true):
		return false, api.ErrFull
	case state == api.Gone:
		return true, api.OK
	case epoch == 5:
		return false, api.OK
	case epoch < 5:
		return false, api.ErrEpoch
	case state == api.Serving:
		return false, api.ErrState
	}
	return true, api.OK
}

func TestInstall(t *testing.T) {
	for _, state := range []int{0, api.Serving, api.Frozen, api.Held, api.Gone} {
		for room, list := range rooms(state) {
			wantCheck(t, list, true)
			for _, epoch := range []int64{1, 4, 5, 6, 1 << 40} {
				for _, sent := range liveStates {
					s := shardOf(3, epoch, sent, "d", "", "d", "e", "f")
					changes, err := wantInstall(state, epoch, room)
					if !changes {
						refuse(t, list, install(s), err)
						continue
					}
					s.State = api.Held
					turns(t, list, install(s), with(list, s))
				}
			}
		}
	}
}

// A shard that is installed stands where its Id says, with all that it was sent with, and serves none until it is opened.
func TestInstallPlaces(t *testing.T) {
	list := []api.Shard{shardOf(2, 5, api.Serving, "", "", "a"), shardOf(4, 5, api.Gone, "", ""), shardOf(6, 5, api.Held, "", "", "a")}
	for _, id := range []int{1, 3, 5, 7, 1 << 40, math.MaxInt} {
		s := shardOf(id, 1, api.Frozen, "b", "m", numbered("c", api.MaxJobs)...)
		got := must(t, list, install(s))
		s.State = api.Held
		if !got.same(answer{list: with(list, s)}) {
			t.Errorf("P18.1: OrdInstall: %s", got.told())
		}
		refuse(t, got.list, ordCmd(id, 1, cmdOf(api.CmdGet, 3, 1, "c000")), api.ErrFrozen)
		refuse(t, got.list, api.Order{Kind: api.OrdFreeze, Shard: id, Epoch: 1}, api.ErrState)
		refuse(t, got.list, api.Order{Kind: api.OrdThaw, Shard: id, Epoch: 1, Past: 2}, api.ErrState)
		s.State = api.Serving
		turns(t, got.list, api.Order{Kind: api.OrdOpen, Shard: id, Epoch: 1}, with(list, s))
	}
	empty := api.Shard{Id: 3, Epoch: 1, State: api.Serving}
	held := empty
	held.State = api.Held
	turns(t, list, install(empty), with(list, held))
	turns(t, nil, install(empty), []api.Shard{held})
}

// ErrArg comes first, whatever stands there; a shard that is right but for being gone is refused so too.
func TestInstallOfNoShards(t *testing.T) {
	for _, c := range trials() {
		if c.want && c.s.State != api.Gone {
			continue
		}
		for _, list := range [][]api.Shard{nil, served(), fill(nil, api.MaxShards, api.MaxGone), {shardOf(3, 5, api.Serving, "", "")}, {shardOf(3, 9, api.Gone, "", "")}} {
			refuse(t, list, install(c.s), api.ErrArg)
		}
	}
	noTable := shardOf(3, 9, api.Held, "b", "m", "d", "c")
	outside := shardOf(3, 9, api.Held, "b", "m", "m")
	noBook := shardOf(3, 9, api.Held, "b", "m", "c")
	noBook.Seen[1].Client = 2
	for _, s := range []api.Shard{{}, noTable, outside, noBook} {
		refuse(t, served(), install(s), api.ErrArg)
	}
}

func TestRetire(t *testing.T) {
	for _, state := range []int{0, api.Serving, api.Frozen, api.Held, api.Gone} {
		for room, list := range rooms(state) {
			for _, epoch := range []int64{1, 4, 5, 6, 1 << 40} {
				o := retire(3, epoch)
				switch {
				case state == 0 && (room == "gone are all" || room == "none left"):
					refuse(t, list, o, api.ErrFull)
				case state == 0:
					turns(t, list, o, with(list, api.Shard{Id: 3, Epoch: epoch, State: api.Gone}))
				case state == api.Gone:
					turns(t, list, o, with(list, shardOf(3, max(epoch, 5), api.Gone, "b", "m")))
				case epoch != 5:
					refuse(t, list, o, api.ErrEpoch)
				case state == api.Serving:
					refuse(t, list, o, api.ErrState)
				default:
					turns(t, list, o, with(list, shardOf(3, 5, api.Gone, "b", "m")))
				}
			}
		}
	}
}

func TestRetireErrors(t *testing.T) {
	noEpochs := []int64{0, -1, 1<<40 + 1, math.MaxInt64, math.MinInt64}
	for _, state := range []int{0, api.Serving, api.Frozen, api.Held, api.Gone} {
		for _, list := range rooms(state) {
			for _, epoch := range noEpochs {
				refuse(t, list, retire(3, epoch), api.ErrArg)
				refuse(t, list, retire(77, epoch), api.ErrArg)
			}
			for _, id := range []int{0, -1, math.MinInt, -1<<32 + 3} {
				refuse(t, list, retire(id, 5), api.ErrArg)
				refuse(t, list, retire(id, 0), api.ErrArg)
			}
		}
	}
	for _, id := range []int{1, 2, 99, math.MaxInt} {
		for _, epoch := range []int64{1, 1 << 40} {
			turns(t, nil, retire(id, epoch), []api.Shard{{Id: id, Epoch: epoch, State: api.Gone}})
		}
	}
}

// What is gone isn't brought back by what was sent long ago, and is by what is newer.
func TestGoneStaysGone(t *testing.T) {
	list := must(t, served(), retire(3, 5)).list
	refuse(t, list, install(shardOf(3, 4, api.Held, "m", "", "m")), api.ErrEpoch)
	refuse(t, list, install(shardOf(3, 5, api.Held, "m", "", "m")), api.ErrEpoch)
	refuse(t, list, api.Order{Kind: api.OrdOpen, Shard: 3, Epoch: 5}, api.ErrShard)
	newer := must(t, list, install(shardOf(3, 6, api.Held, "m", "", "m"))).list
	if got := of(newer, 3); !sameShard(got, shardOf(3, 6, api.Held, "m", "", "m")) {
		t.Errorf("P18.1: OrdInstall over one that is gone: %s", toldShard(got))
	}
	refuse(t, newer, retire(3, 5), api.ErrEpoch)

	// Retired ahead of what was sent, it comes too late.
	list = must(t, served(), retire(9, 7)).list
	list = must(t, list, retire(9, 6)).list
	refuse(t, list, install(shardOf(9, 7, api.Held, "", "", "a")), api.ErrEpoch)
	must(t, list, install(shardOf(9, 8, api.Held, "", "", "a")))
}
