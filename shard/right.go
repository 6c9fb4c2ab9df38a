package shard

import (
	"slices"

	"matins/api"
	"matins/jobs"
	"matins/seat"
)

const lastEpoch = 1 << 40

func isEpoch(n int64) bool { return n >= 1 && n <= lastEpoch }

// rises tells whether a shard may go on from an Epoch to another.
func rises(from, to int64) bool { return to > from && to <= lastEpoch }

func isKey(s string) bool { return s == "" || jobs.Named(s) }

// isRange tells whether a shard's From and To are those of a range, with room for names.
func isRange(s api.Shard) bool {
	return isKey(s.From) && isKey(s.To) && (s.To == "" || s.To > s.From)
}

// within tells whether a name lies in a shard's range, where both are known to be what they are called.
func within(s api.Shard, name string) bool {
	return name >= s.From && (s.To == "" || name < s.To)
}

func right(s api.Shard) bool {
	if s.Id < 1 || !isEpoch(s.Epoch) || s.State < api.Serving || s.State > api.Gone || !isRange(s) {
		return false
	}
	if s.State == api.Gone && len(s.Jobs)+len(s.Seen) > 0 {
		return false
	}
	outside := func(j api.Job) bool { return !within(s, j.Name) }
	return jobs.Check(s.Jobs) && !slices.ContainsFunc(s.Jobs, outside) && seat.Check(s.Seen)
}

// countLive is how many shards aren't gone.
func countLive(list []api.Shard) int {
	n := 0
	for _, s := range list {
		if s.State != api.Gone {
			n++
		}
	}
	return n
}

// copied is a shard that shares no memory: its jobs, its sessions, and the jobs in what they tell are its own.
func copied(s api.Shard) api.Shard {
	s.Jobs = slices.Clone(s.Jobs)
	s.Seen = slices.Clone(s.Seen)
	for i, seen := range s.Seen {
		s.Seen[i].Result.Jobs = slices.Clone(seen.Result.Jobs)
	}
	return s
}

func copies(list []api.Shard) []api.Shard {
	all := make([]api.Shard, len(list))
	for i, s := range list {
		all[i] = copied(s)
	}
	return all
}
