package raft

import (
	"slices"

	"matins/api"
	"matins/quorum"
	"matins/trail"
)

const (
	top     = 1 << 40 // the greatest term, and the greatest number that an entry may have
	maxLeft = 100
)

// Check: whether a node is right.
func Check(r api.Raft) bool {
	if !quorum.Check(r.Conf) || !slices.Contains(r.Conf, r.Id) {
		return false
	}
	return rightKept(r) && rightRest(r) && rightRole(r)
}

// rightKept tells whether what is kept is as it should be, by a right Conf.
func rightKept(r api.Raft) bool {
	if !within(r.Term, 0, top) || !noneOrIn(r.Conf, r.Vote) || len(r.Snap) > api.MaxSnap {
		return false
	}
	_, term := trail.Last(r.Trail)
	return trail.Check(r.Trail) && term <= r.Term
}

// rightRest tells whether what nodes of all roles have beside it is as it should be, by what is kept.
func rightRest(r api.Raft) bool {
	last, _ := trail.Last(r.Trail)
	return noneOrIn(r.Conf, r.Leader) &&
		within(r.Commit, r.Trail.Base, last) &&
		within(r.Left, 0, maxLeft) &&
		within(r.Wait, api.MinWait, api.MinWait+api.Spread-1)
}

// rightRole tells whether what belongs to a role is there with that role alone, by all the rest.
func rightRole(r api.Raft) bool {
	idle := len(r.Next) == 0 && len(r.Match) == 0
	switch r.Role {
	case api.Follower:
		return len(r.Votes) == 0 && idle
	case api.Candidate:
		return r.Vote == r.Id && rightVotes(r) && idle
	case api.Leader:
		return r.Vote == r.Id && r.Leader == r.Id && len(r.Votes) == 0 && rightPlaces(r)
	}
	return false
}

// rightVotes tells whether a candidate's Votes are as they should be.
func rightVotes(r api.Raft) bool {
	if len(r.Votes) == 0 || r.Votes[0] != r.Id {
		return false
	}
	for i, node := range r.Votes {
		if !slices.Contains(r.Conf, node) || slices.Contains(r.Votes[:i], node) {
			return false
		}
	}
	return !quorum.Wins(r.Conf, r.Votes)
}

// rightPlaces tells whether a leader's Next and Match are as they should be.
func rightPlaces(r api.Raft) bool {
	if len(r.Next) != len(r.Conf) || len(r.Match) != len(r.Conf) {
		return false
	}
	last, _ := trail.Last(r.Trail)
	for i, match := range r.Match {
		if !within(match, 0, last) || !within(r.Next[i], match+1, last+1) {
			return false
		}
	}
	return true
}

// within tells whether a number is one of a range, with both its ends.
func within[T int | int64](n, low, high T) bool { return n >= low && n <= high }

// noneOrIn tells whether a number is 0, for no node, or a node of a configuration.
func noneOrIn(conf []int, node int) bool { return node == 0 || slices.Contains(conf, node) }

// takes tells whether a right node takes a message.
func takes(r api.Raft, m api.Message) bool {
	if !within(m.Kind, api.Ask, api.Bundle) {
		return false
	}
	if m.To != r.Id || m.From == r.Id || !slices.Contains(r.Conf, m.From) {
		return false
	}
	if !within(m.Term, 1, top) || !within(m.Index, 0, top) || !within(m.LogTerm, 0, m.Term) || !within(m.Commit, 0, top) {
		return false
	}
	return takesEntries(m) && len(m.Data) <= api.MaxSnap
}

// takesEntries tells whether a message's entries are as they should be, by its Term and a LogTerm that isn't above it.
func takesEntries(m api.Message) bool {
	if len(m.Entries) > api.MaxPush {
		return false
	}
	behind := api.Trail{Base: 1, BaseTerm: m.LogTerm, Entries: m.Entries} // right, if they follow LogTerm
	_, term := trail.Last(behind)
	return trail.Check(behind) && term <= m.Term
}
