package raft_test

import (
	"math"
	"slices"
	"testing"

	"matins/api"
)

func TestPropose(t *testing.T) {
	entries := leader().Trail.Entries
	for _, data := range []string{"x", "\x00", "\xff\xfe", "more than a byte", text(api.MaxData - 1), text(api.MaxData)} {
		got, sent, n, err := propose(t, leader(), data)
		entry := api.Entry{Term: 5, Data: data}
		want := with(leader(), func(r *api.Raft) {
			r.Trail.Entries = append(r.Trail.Entries, entry)
			r.Next[1], r.Match[1] = 8, 7
		})
		wantNode(t, "P14.3: Propose", got, want)
		wantSent(t, "P14.3: Propose", sent, push(1, 6, 5, 3, entry), push(3, 3, 1, 3, append(slices.Clone(entries[1:]), entry)...))
		if n != 7 || err != api.OK {
			t.Errorf("P14.3: Propose: %d, error %d", n, err)
		}
	}
}

// One alone agrees at once, and its number is the entry's.
func TestProposeOfOne(t *testing.T) {
	r := api.Raft{Id: 2, Conf: []int{2}, Term: 5, Vote: 2, Role: api.Leader, Leader: 2, Trail: log(9, 4, 4), Commit: 9, Left: 1, Wait: 10, Next: []int64{11}, Match: []int64{10}}
	for i := range int64(5) {
		got, sent, n, err := propose(t, r, "x")
		if n != 11+i || err != api.OK || got.Commit != n || got.Next[0] != n+1 || got.Match[0] != n || got.Left != 1 {
			t.Errorf("P14.3: Propose of one: %s, %d, error %d", told(got), n, err)
		}
		wantSent(t, "P14.3: Propose of one", sent)
		r = got
	}
}

// A Match of the node itself that was behind follows, and lets it agree.
func TestProposeFollows(t *testing.T) {
	r := with(leader(), func(r *api.Raft) { r.Next, r.Match = []int64{7, 2, 7}, []int64{6, 0, 0} })
	got, sent, n, _ := propose(t, r, "x")
	if got.Commit != 6 || got.Match[1] != 7 || got.Next[1] != 8 || n != 7 {
		t.Errorf("P14.3: Propose: %s", told(got))
	}
	for _, m := range sent {
		if m.Commit != 6 {
			t.Errorf("P14.3: Propose pushes ahead of agreeing: %s", toldMessage(m))
		}
	}
	low := with(leader(), func(r *api.Raft) { r.Next = []int64{1, 7, 2}; r.Match = []int64{0, 6, 0} })
	_, sent, _, _ = propose(t, low, "x")
	wantSent(t, "P14.3: Propose pushes Bundles", sent, bundle(1, 2, 1, "snap"), bundle(3, 2, 1, "snap"))
}

func wantNoPropose(t *testing.T, r api.Raft, data string, want api.Errno) {
	t.Helper()
	got, sent, n, err := propose(t, r, data)
	wantNode(t, "P14.3: Propose, refused", got, r)
	wantSent(t, "P14.3: Propose, refused", sent)
	if n != 0 || err != want {
		t.Errorf("P14.3: Propose(%q) of %s: %d, error %d, want %d", short(data), told(r), n, err, want)
	}
}

// The errors in their order: each one with all that come behind it.
func TestProposeRefused(t *testing.T) {
	full := with(leader(), func(r *api.Raft) { r.Trail = many(2, 1, api.MaxLog, 5) })
	end := with(leader(), func(r *api.Raft) {
		r.Trail, r.Commit, r.Next, r.Match = log(top-1, 5, 5), top, []int64{top + 1, top + 1, 1}, []int64{0, top, 0}
	})
	base := with(end, func(r *api.Raft) { r.Trail = log(top, 5) })
	for _, r := range []api.Raft{leader(), full, end, base} {
		for _, data := range []string{"", text(api.MaxData + 1), text(api.MaxText)} {
			wantNoPropose(t, r, data, api.ErrArg)
		}
		for _, data := range []string{"", "x", text(api.MaxData + 1)} {
			wantNoPropose(t, with(r, func(r *api.Raft) { r.Role, r.Next, r.Match = api.Follower, nil, nil }), data, api.ErrState)
			wantNoPropose(t, with(r, func(r *api.Raft) { r.Role, r.Next, r.Match, r.Votes = api.Candidate, nil, nil, []int{2} }), data, api.ErrState)
			wantNoPropose(t, with(r, func(r *api.Raft) { r.Left = 101 }), data, api.ErrState)
		}
	}
	for _, r := range []api.Raft{full, end, base} {
		wantNoPropose(t, r, "x", api.ErrFull)
		wantNoPropose(t, r, text(api.MaxData), api.ErrFull)
	}
}

func TestProposeWithRoomForOne(t *testing.T) {
	near := with(leader(), func(r *api.Raft) { r.Trail = many(2, 1, api.MaxLog-1, 5) })
	got, _, n, err := propose(t, near, "x")
	if n != api.MaxLog+2 || err != api.OK || len(got.Trail.Entries) != api.MaxLog {
		t.Errorf("P14.3: Propose to an almost full log: %d, error %d", n, err)
	}
	wantNoPropose(t, got, "x", api.ErrFull)
	end := with(leader(), func(r *api.Raft) {
		r.Trail, r.Commit, r.Next, r.Match = log(top-2, 5, 5), top-1, []int64{top, top, 1}, []int64{0, top - 1, 0}
	})
	got, _, n, err = propose(t, end, "x")
	if n != top || err != api.OK || got.Next[1] != top+1 {
		t.Errorf("P14.3: Propose ahead of 2^40: %d, error %d", n, err)
	}
	wantNoPropose(t, got, "x", api.ErrFull)
}

// No entry has the term 0: a leader of it, which no calls make, can put none behind its log.
func TestProposeInTheTermZero(t *testing.T) {
	r := api.Raft{Id: 2, Conf: []int{1, 2, 3}, Vote: 2, Role: api.Leader, Leader: 2, Left: 2, Wait: 10, Next: []int64{1, 1, 1}, Match: []int64{0, 0, 0}}
	wantCheck(t, "a leader of the term 0", r, true)
	wantNoPropose(t, r, "x", api.ErrFull)
	wantNoPropose(t, r, "", api.ErrArg)
	based := with(r, func(r *api.Raft) { r.Trail.Base, r.Commit = 4, 4 })
	wantCheck(t, "a leader of the term 0", based, true)
	wantNoPropose(t, based, "x", api.ErrFull)
	_, sent := tick(t, with(based, func(r *api.Raft) { r.Left = 1 }), 0)
	wantSent(t, "P14.2: a beat in the term 0", sent, api.Message{Kind: api.Bundle, From: 2, To: 1, Index: 4}, api.Message{Kind: api.Bundle, From: 2, To: 3, Index: 4})
}

func TestCompact(t *testing.T) {
	entries := follower().Trail.Entries
	terms := []int64{1, 1, 3, 3, 5} // of the numbers 2 to 6
	for _, r := range roles() {
		for commit := int64(2); commit <= 6; commit++ {
			r.Commit = commit
			for to := int64(2); to <= commit; to++ {
				for _, snap := range []string{"", "s", text(api.MaxSnap - 1), text(api.MaxSnap)} {
					got, err := compact(t, r, to, snap)
					want := lend(r)
					want.Trail, want.Snap = api.Trail{Base: to, BaseTerm: terms[to-2], Entries: entries[to-2:]}, snap
					wantNode(t, "P14.3: Compact", got, want)
					if err != api.OK {
						t.Errorf("P14.3: Compact: error %d", err)
					}
				}
			}
		}
	}
	empty := api.Raft{Id: 2, Conf: []int{2}, Left: 1, Wait: 10}
	got, err := compact(t, empty, 0, "s")
	wantNode(t, "P14.3: Compact of a new node", got, with(empty, func(r *api.Raft) { r.Snap = "s" }))
	if err != api.OK {
		t.Errorf("P14.3: Compact of a new node: error %d", err)
	}
	full := with(follower(), func(r *api.Raft) { r.Trail, r.Commit = many(0, 0, api.MaxLog, 5), api.MaxLog })
	if got, err := compact(t, full, api.MaxLog, ""); err != api.OK || got.Trail.Base != api.MaxLog || got.Trail.BaseTerm != 5 || len(got.Trail.Entries) != 0 {
		t.Errorf("P14.3: Compact of a full one: %s, error %d", told(got), err)
	}
}

func TestCompactRefused(t *testing.T) {
	wantNo := func(r api.Raft, to int64, snap string, want api.Errno) {
		t.Helper()
		got, err := compact(t, r, to, snap)
		wantNode(t, "P14.3: Compact, refused", got, r)
		if err != want {
			t.Errorf("P14.3: Compact(%d, %q) of %s: error %d, want %d", to, short(snap), told(r), err, want)
		}
	}
	for _, r := range roles() {
		for _, to := range []int64{math.MinInt64, -1, 0, 1, 4, 5, 6, 7, top, top + 1, math.MaxInt64, 3 + 1<<32} {
			wantNo(r, to, "s", api.ErrArg)
			wantNo(r, to, text(api.MaxSnap+1), api.ErrArg)
		}
		for to := int64(2); to <= 3; to++ {
			wantNo(r, to, text(api.MaxSnap+1), api.ErrArg)
			wantNo(r, to, text(api.MaxText), api.ErrArg)
			wantNo(with(r, func(r *api.Raft) { r.Wait = 9 }), to, "s", api.ErrState)
		}
		wantNo(with(r, func(r *api.Raft) { r.Wait = 9 }), 9, text(api.MaxSnap+1), api.ErrState)
	}
}

// Behind a Compact a leader sends those who are behind its base the Snap.
func TestCompactOfALeader(t *testing.T) {
	r := with(leader(), func(r *api.Raft) { r.Commit, r.Left = 4, 1 })
	got, _ := compact(t, r, 4, "four")
	_, sent := tick(t, got, 0)
	wantSent(t, "P14.3: behind Compact", sent, push(1, 6, 5, 4), bundle(3, 4, 3, "four"))
}
