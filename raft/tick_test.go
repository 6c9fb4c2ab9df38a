package raft_test

import (
	"math"
	"slices"
	"testing"

	"matins/api"
)

func ask(to int, term, index, logTerm int64) api.Message {
	return api.Message{Kind: api.Ask, From: 2, To: to, Term: term, Index: index, LogTerm: logTerm}
}

// push is a Push of leader().
func push(to int, index, logTerm, commit int64, entries ...api.Entry) api.Message {
	return api.Message{Kind: api.Push, From: 2, To: to, Term: 5, Index: index, LogTerm: logTerm, Commit: commit, Entries: entries}
}

func bundle(to int, index, logTerm int64, data string) api.Message {
	return api.Message{Kind: api.Bundle, From: 2, To: to, Term: 5, Index: index, LogTerm: logTerm, Data: data}
}

// With ticks left a node does nothing but let one go by.
func TestTickOfEachRoleWithTimeLeft(t *testing.T) {
	for _, r := range append(roles(), five()) {
		for _, left := range []int{2, 3, 9, 10, 99, 100} {
			r.Left = left
			for _, draw := range []int{math.MinInt, -1, 0, 9, math.MaxInt} {
				got, sent := tick(t, r, draw)
				want := lend(r)
				want.Left = left - 1
				wantNode(t, "P14.2: Tick with time left", got, want)
				wantSent(t, "P14.2: Tick with time left", sent)
			}
		}
	}
}

// A follower and a candidate stand, from Left 1 and from Left 0.
func TestTickStands(t *testing.T) {
	for _, r := range []api.Raft{follower(), candidate()} {
		for _, left := range []int{0, 1} {
			r := with(r, func(r *api.Raft) { r.Left = left })
			got, sent := tick(t, r, 7)
			want := with(candidate(), func(r *api.Raft) { r.Term, r.Left, r.Wait = 6, 17, 17 })
			wantNode(t, "P14.2: it stands", got, want)
			wantSent(t, "P14.2: it stands", sent, ask(1, 6, 6, 5), ask(3, 6, 6, 5))
		}
	}
	was := with(follower(), func(r *api.Raft) { r.Left, r.Leader, r.Vote = 1, 3, 3 })
	got, _ := tick(t, was, 0)
	if got.Vote != 2 || got.Leader != 0 || got.Term != 6 {
		t.Errorf("P14.2: it stands: %s", told(got))
	}
	all := with(five(), func(r *api.Raft) { r.Left = 0 })
	got, sent := tick(t, all, 1)
	if !slices.Equal(got.Votes, []int{30}) || got.Term != 5 || len(sent) != 4 {
		t.Errorf("P14.2: it stands once more: %s, %s", told(got), toldMessages(sent))
	}
	for i, to := range []int{10, 20, 40, 50} {
		if i < len(sent) && (sent[i].To != to || sent[i].From != 30 || sent[i].Kind != api.Ask) {
			t.Errorf("P14.2: it asks %s, want %d", toldMessage(sent[i]), to)
		}
	}
}

func TestDraws(t *testing.T) {
	for draw, wait := range map[int]int{
		0: 10, 1: 11, 4: 14, 8: 18, 9: 19, 10: 10, 11: 11, 19: 19, 20: 10, 123: 13, 1 << 32: 16, math.MaxInt: 17, math.MaxInt - 1: 16,
		-1: 10, -2: 11, -5: 14, -9: 18, -10: 19, -11: 10, -12: 11, -20: 19, -21: 10, -123: 12, math.MinInt: 17, math.MinInt + 1: 16,
	} {
		for _, r := range []api.Raft{follower(), candidate()} {
			got, _ := tick(t, with(r, func(r *api.Raft) { r.Left = 0 }), draw)
			if got.Wait != wait || got.Left != wait {
				t.Errorf("P14.2: the draw %d: Wait %d, Left %d, want %d", draw, got.Wait, got.Left, wait)
			}
		}
		one := api.Raft{Id: 2, Conf: []int{2}, Left: 1, Wait: 10}
		got, _ := tick(t, one, draw)
		if got.Wait != wait || got.Left != 2 || got.Role != api.Leader {
			t.Errorf("P14.2: the draw %d of one: %s, want the Wait %d", draw, told(got), wait)
		}
		lead := with(leader(), func(r *api.Raft) { r.Left = 0 })
		if got, _ := tick(t, lead, draw); got.Wait != 13 || got.Left != 2 {
			t.Errorf("P14.2: the draw %d of a leader: %s", draw, told(got))
		}
	}
}

// At the last term nobody stands; a leader goes on.
func TestTickAtTheLastTerm(t *testing.T) {
	for _, r := range []api.Raft{follower(), candidate()} {
		for _, left := range []int{0, 1} {
			r := with(r, func(r *api.Raft) { r.Term, r.Left = top, left })
			got, sent := tick(t, r, 5)
			want := with(r, func(r *api.Raft) { r.Left = 0 })
			wantNode(t, "P14.2: Tick at the last term", got, want)
			wantSent(t, "P14.2: Tick at the last term", sent)
		}
		r.Term, r.Left = top-1, 1
		got, sent := tick(t, r, 5)
		if got.Term != top || got.Role != api.Candidate || len(sent) != 2 {
			t.Errorf("P14.2: Tick ahead of the last term: %s, %s", told(got), toldMessages(sent))
		}
	}
	one := api.Raft{Id: 2, Conf: []int{2}, Term: top, Wait: 10}
	got, sent := tick(t, one, 5)
	wantNode(t, "P14.2: Tick of one at the last term", got, one)
	wantSent(t, "P14.2: Tick of one at the last term", sent)
	lead := with(leader(), func(r *api.Raft) { r.Term, r.Left = top, 1 })
	got, sent = tick(t, lead, 5)
	if got.Left != 2 || got.Term != top || len(sent) != 2 {
		t.Errorf("P14.2: Tick of a leader at the last term: %s, %s", told(got), toldMessages(sent))
	}
}

func TestTickOfLeader(t *testing.T) {
	entries := leader().Trail.Entries
	for _, left := range []int{0, 1} {
		r := with(leader(), func(r *api.Raft) { r.Left = left })
		got, sent := tick(t, r, 5)
		wantNode(t, "P14.2: a leader's beat", got, leader())
		wantSent(t, "P14.2: a leader's beat", sent, push(1, 6, 5, 3), push(3, 3, 1, 3, entries[1:]...))
	}
}

// To each Next what belongs to it: a Bundle up to Base, else a Push with what lies behind.
func TestPushes(t *testing.T) {
	entries := leader().Trail.Entries
	terms := []int64{1, 1, 3, 3, 5} // of the numbers 2 to 6
	for next := int64(1); next <= 7; next++ {
		want := bundle(1, 2, 1, "snap")
		if next > 2 {
			want = push(1, next-1, terms[next-3], 3, entries[next-3:]...)
		}
		r := with(leader(), func(r *api.Raft) { r.Next, r.Match, r.Left = []int64{next, 7, next}, []int64{0, 6, 0}, 1 })
		_, sent := tick(t, r, 0)
		third := want
		third.To = 3
		wantSent(t, "P14.2: it pushes", sent, want, third)
	}
}

func TestPushesAtMostEight(t *testing.T) {
	r := with(leader(), func(r *api.Raft) {
		r.Trail, r.Commit, r.Left = many(0, 0, 30, 5), 0, 1
		r.Conf, r.Next, r.Match = []int{1, 2, 3, 4, 5, 6, 7}, []int64{1, 31, 30, 24, 23, 22, 2}, []int64{0, 30, 0, 0, 0, 0, 0}
	})
	entries := r.Trail.Entries
	_, sent := tick(t, r, 0)
	wantSent(t, "P14.2: it pushes at most MaxPush", sent,
		push(1, 0, 0, 0, entries[:8]...), push(3, 29, 5, 0, entries[29:]...), push(4, 23, 5, 0, entries[23:]...),
		push(5, 22, 5, 0, entries[22:]...), push(6, 21, 5, 0, entries[21:29]...), push(7, 1, 5, 0, entries[1:9]...))
}

// A leader of one has nobody to push to.
func TestTickOfLeaderAlone(t *testing.T) {
	r := api.Raft{Id: 2, Conf: []int{2}, Term: 5, Vote: 2, Role: api.Leader, Leader: 2, Trail: log(0, 0, 5), Commit: 1, Left: 1, Wait: 10, Next: []int64{2}, Match: []int64{1}}
	got, sent := tick(t, r, 0)
	wantNode(t, "P14.2: a beat of one", got, with(r, func(r *api.Raft) { r.Left = 2 }))
	wantSent(t, "P14.2: a beat of one", sent)
}

// One alone leads when it stands; its entry, and all ahead of it, are agreed on.
func TestOneLeads(t *testing.T) {
	r := api.Raft{Id: 2, Conf: []int{2}, Term: 5, Trail: log(2, 1, 1, 3), Snap: "s", Commit: 2, Left: 1, Wait: 10}
	got, sent := tick(t, r, 6)
	want := api.Raft{Id: 2, Conf: []int{2}, Term: 6, Vote: 2, Role: api.Leader, Leader: 2, Trail: log(2, 1, 1, 3), Snap: "s", Commit: 5, Left: 2, Wait: 16, Next: []int64{6}, Match: []int64{5}}
	want.Trail.Entries = append(want.Trail.Entries, api.Entry{Term: 6})
	wantNode(t, "P14.2: one leads", got, want)
	wantSent(t, "P14.2: one leads", sent)
}

// With a full log, or one at 2^40, a node leads without an entry of its own, and agrees on none of older terms.
func TestLeadsWithAFullLog(t *testing.T) {
	for _, full := range []api.Trail{many(0, 0, api.MaxLog, 3), many(7, 2, api.MaxLog, 3), log(top, 3), log(top-2, 3, 3, 4), many(top-api.MaxLog, 1, api.MaxLog, 5)} {
		last := full.Base + int64(len(full.Entries))
		one := api.Raft{Id: 2, Conf: []int{2}, Term: 5, Trail: full, Commit: full.Base, Left: 1, Wait: 10}
		got, sent := tick(t, one, 0)
		want := api.Raft{Id: 2, Conf: []int{2}, Term: 6, Vote: 2, Role: api.Leader, Leader: 2, Trail: full, Commit: full.Base, Left: 2, Wait: 10, Next: []int64{last + 1}, Match: []int64{last}}
		wantNode(t, "P14.2: one leads with a full log", got, want)
		wantSent(t, "P14.2: one leads with a full log", sent)
		three := api.Raft{Id: 2, Conf: []int{1, 2, 3}, Term: 5, Vote: 2, Role: api.Candidate, Trail: full, Commit: last, Left: 1, Wait: 10, Votes: []int{2}}
		got, sent = handle(t, three, api.Message{Kind: api.Grant, From: 1, To: 2, Term: 5, Yes: true})
		if got.Role != api.Leader || len(got.Trail.Entries) != len(full.Entries) || !slices.Equal(got.Next, []int64{last + 1, last + 1, last + 1}) || !slices.Equal(got.Match, []int64{0, last, 0}) {
			t.Errorf("P14.2: three lead with a full log: %s", told(got))
		}
		_, lastTerm := full.Base, full.BaseTerm
		if n := len(full.Entries); n > 0 {
			lastTerm = full.Entries[n-1].Term
		}
		wantSent(t, "P14.2: three lead with a full log", sent, push(1, last, lastTerm, last), push(3, last, lastTerm, last))
	}
}

// One entry less than full, one number less than the last: there is room for the leader's entry.
func TestLeadsWithRoomForOne(t *testing.T) {
	for _, near := range []api.Trail{many(0, 0, api.MaxLog-1, 3), log(top-1, 3), log(top-2, 3, 3), many(top-api.MaxLog, 1, api.MaxLog-1, 5)} {
		one := api.Raft{Id: 2, Conf: []int{2}, Term: 5, Trail: near, Commit: near.Base, Left: 1, Wait: 10}
		got, _ := tick(t, one, 0)
		last := near.Base + int64(len(near.Entries)) + 1
		if len(got.Trail.Entries) != len(near.Entries)+1 || got.Commit != last || got.Next[0] != last+1 || got.Trail.Entries[len(near.Entries)] != (api.Entry{Term: 6}) {
			t.Errorf("P14.2: one leads with room for one entry: %s", told(got))
		}
	}
}
