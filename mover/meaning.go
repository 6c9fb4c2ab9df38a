package mover

import "matins/api"

// What is done, where it is no phase.
const (
	nothing = 0
	abort   = -1
)

// meaning is what the mover has behind an answer to an order of a kind, and what is done. What it has shares memory with what it had, or with the shard that was answered.
func meaning(p api.Plan, kind int, err api.Errno, have, s api.Shard) (api.Shard, int) {
	switch kind {
	case api.OrdFreeze:
		return frozen(p, err, have, s), nothing
	case api.OrdInstall:
		return have, installed(err)
	case api.OrdRetire:
		return retired(p, err, have)
	case api.OrdThaw:
		return emptied(err, have, givenUp)
	case api.OrdOpen:
		return emptied(err, have, flipped)
	}
	return changed(kind, err, have)
}

func frozen(p api.Plan, err api.Errno, have, s api.Shard) api.Shard {
	switch {
	case err == api.OK:
		return s
	case err == api.ErrEpoch && p.Phase == givenUp: // it was thawed already, and the answer was lost: the rest is gone through once more, without it
		return api.Shard{Id: p.Shard, Epoch: p.Epoch}
	}
	return have
}

func installed(err api.Errno) int {
	switch err {
	case api.OK:
		return begun
	case api.ErrFull, api.ErrArg, api.ErrState, api.ErrEpoch:
		return abort
	}
	return nothing
}

func retired(p api.Plan, err api.Errno, have api.Shard) (api.Shard, int) {
	switch {
	case err != api.OK && err != api.ErrEpoch:
		return have, nothing
	case p.Phase == opened:
		return have, opened
	}
	return api.Shard{Id: p.Shard, Epoch: p.Epoch, State: api.Gone}, nothing
}

// emptied is the meaning of the answer to an order behind whose phase nothing that the mover has is asked for any more.
func emptied(err api.Errno, have api.Shard, phase int) (api.Shard, int) {
	if err != api.OK {
		return have, nothing
	}
	return api.Shard{}, phase
}

// changed is the meaning of the answer to a split or a merge. A split that its group has no room for would be refused for ever; to a merge that is too big room may come, by jobs that are removed.
func changed(kind int, err api.Errno, have api.Shard) (api.Shard, int) {
	switch {
	case err == api.OK:
		return have, begun
	case kind == api.OrdSplit && err == api.ErrFull:
		return api.Shard{}, abort
	}
	return have, nothing
}
