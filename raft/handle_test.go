package raft_test

import (
	"math"
	"slices"
	"strconv"
	"testing"

	"matins/api"
)

// message is one that node 2 takes, of each kind.
func message(kind int, term int64) api.Message {
	return api.Message{Kind: kind, From: 3, To: 2, Term: term}
}

func grant(to int, term int64, yes bool) api.Message {
	return api.Message{Kind: api.Grant, From: 2, To: to, Term: term, Yes: yes}
}

func ack(to int, term int64, yes bool, index int64) api.Message {
	return api.Message{Kind: api.Ack, From: 2, To: to, Term: term, Yes: yes, Index: index}
}

// wantTaken sends a message of a later term: that it is taken is to be seen at the node's Term.
func wantTaken(t *testing.T, what string, m api.Message, want bool) {
	t.Helper()
	for _, r := range roles() {
		got, sent := handle(t, r, m)
		if want && got.Term != m.Term {
			t.Errorf("P14.2: %s: %s isn't taken: %s", what, toldMessage(m), told(got))
		}
		if !want {
			wantNode(t, "P14.2: "+what+": "+toldMessage(m)+" is taken", got, r)
			wantSent(t, "P14.2: "+what+": "+toldMessage(m)+" is taken", sent)
		}
	}
}

func TestTaken(t *testing.T) {
	for kind := api.Ask; kind <= api.Bundle; kind++ {
		m := message(kind, 9)
		wantTaken(t, "Kind", m, true)
		for _, n := range []int64{0, 1, 2, 1 << 32, top - 1, top} {
			m := message(kind, 9)
			m.Index = n
			wantTaken(t, "Index", m, true)
			m = message(kind, 9)
			m.Commit = n
			wantTaken(t, "Commit", m, true)
		}
		for _, n := range []int64{0, 1, 8, 9} {
			m := message(kind, 9)
			m.LogTerm = n
			wantTaken(t, "LogTerm", m, true)
		}
		for _, term := range []int64{6, 1 << 32, top - 1, top} {
			m := message(kind, term)
			m.LogTerm = term
			wantTaken(t, "Term", m, true)
		}
		for _, bytes := range []int{0, 1, api.MaxSnap - 1, api.MaxSnap} {
			m := message(kind, 9)
			m.Data = text(bytes)
			wantTaken(t, "Data", m, true)
		}
		m.Yes, m.From = true, 1
		wantTaken(t, "Yes, from 1", m, true)
	}
}

func TestNotTaken(t *testing.T) {
	for _, kind := range []int{math.MinInt, -1, 0, 6, 7, math.MaxInt, 1 + 1<<32} {
		wantTaken(t, "Kind", message(kind, 9), false)
	}
	for kind := api.Ask; kind <= api.Bundle; kind++ {
		spoil := func(what string, change func(m *api.Message)) {
			t.Helper()
			m := message(kind, 9)
			change(&m)
			wantTaken(t, what, m, false)
		}
		for _, to := range []int{0, 1, 3, -2, 4, math.MinInt, math.MaxInt, 2 + 1<<32} {
			spoil("To", func(m *api.Message) { m.To = to })
		}
		for _, from := range []int{0, 2, 4, -1, -3, math.MinInt, math.MaxInt, 3 + 1<<32} {
			spoil("From", func(m *api.Message) { m.From = from })
		}
		for _, n := range []int64{-1, -2, top + 1, math.MinInt64, math.MaxInt64, -1 << 32} {
			spoil("Index", func(m *api.Message) { m.Index = n })
			spoil("Commit", func(m *api.Message) { m.Commit = n })
			spoil("LogTerm", func(m *api.Message) { m.LogTerm = n })
			spoil("Term", func(m *api.Message) { m.Term = n })
		}
		spoil("Term 0", func(m *api.Message) { m.Term = 0 })
		for _, n := range []int64{10, 11, 1 << 32, top} {
			spoil("LogTerm above Term", func(m *api.Message) { m.LogTerm = n })
		}
		for _, bytes := range []int{api.MaxSnap + 1, api.MaxText} {
			spoil("Data", func(m *api.Message) { m.Data = text(bytes) })
		}
	}
}

func TestTakenEntries(t *testing.T) {
	for kind := api.Ask; kind <= api.Bundle; kind++ {
		entries := func(logTerm int64, want bool, l []api.Entry) {
			t.Helper()
			m := message(kind, 9)
			m.LogTerm, m.Entries = logTerm, l
			wantTaken(t, "Entries", m, want)
		}
		for _, l := range [][]api.Entry{nil, {}, list(4), list(9), list(4, 4, 5, 9), list(4, 4, 4, 4, 4, 4, 4), list(4, 4, 4, 4, 4, 4, 4, 4), list(9, 9, 9, 9, 9, 9, 9, 9), {{Term: 4}}, {{Term: 4, Data: text(api.MaxData)}}, {{Term: 4}, {Term: 4, Data: text(api.MaxData)}}} {
			entries(4, true, l)
			entries(0, true, l)
		}
		entries(0, true, list(1, 2, 3))
		entries(9, true, list(9, 9))
		for _, l := range [][]api.Entry{
			list(3), list(4, 3), list(5, 4), list(4, 5, 4), list(0), list(-1), list(4, 0), list(10), list(4, 10), list(9, 10), list(4, 9, top), list(top + 1), list(math.MaxInt64), list(math.MinInt64),
			list(1, 4), list(10, 9), list(4, 4, 4, 4, 4, 4, 4, 4, 4), list(9, 9, 9, 9, 9, 9, 9, 9, 9, 9), {{Term: 4, Data: text(api.MaxData + 1)}}, {{Term: 4}, {Term: 4, Data: text(api.MaxText)}}, make([]api.Entry, 9), {{}}, many(0, 0, api.MaxLog+1, 4).Entries,
		} {
			entries(4, false, l)
		}
		entries(9, false, list(8))
		entries(0, false, list(0))
		entries(0, false, list(2, 1))
	}
	m := message(api.Push, top)
	m.Entries = list(1, top)
	wantTaken(t, "Entries of the last term", m, true)
	m.Entries = list(1, top+1)
	wantTaken(t, "Entries past the last term", m, false)
}

// A message of the term 1 is taken by a new node; of the term 0 none is, though the node's term is that.
func TestTakenByANewNode(t *testing.T) {
	r := api.Raft{Id: 2, Conf: []int{1, 2, 3}, Left: 3, Wait: 10}
	for kind := api.Ask; kind <= api.Bundle; kind++ {
		got, sent := handle(t, r, message(kind, 0))
		wantNode(t, "P14.2: the term 0", got, r)
		wantSent(t, "P14.2: the term 0", sent)
		if got, _ := handle(t, r, message(kind, 1)); got.Term != 1 {
			t.Errorf("P14.2: the term 1: %s", told(got))
		}
	}
	alone := api.Raft{Id: 2, Conf: []int{2}, Left: 3, Wait: 10}
	got, sent := handle(t, alone, message(api.Ask, 1))
	wantNode(t, "P14.2: to one alone", got, alone)
	wantSent(t, "P14.2: to one alone", sent)
}

// Of an older term: a Grant or an Ack without Yes that tells the node's own, and nothing else.
func TestOlderTerm(t *testing.T) {
	for _, r := range append(roles(), with(leader(), func(r *api.Raft) { r.Left = 1 })) {
		for term := int64(1); term < 5; term++ {
			for _, from := range []int{1, 3} {
				for kind := api.Ask; kind <= api.Bundle; kind++ {
					m := api.Message{Kind: kind, From: from, To: 2, Term: term, Index: 9, LogTerm: term, Commit: 9, Yes: true, Entries: named(term), Data: "other"}
					got, sent := handle(t, r, m)
					wantNode(t, "P14.2: an older term", got, r)
					switch kind {
					case api.Ask:
						wantSent(t, "P14.2: an older Ask", sent, grant(from, 5, false))
					case api.Push, api.Bundle:
						wantSent(t, "P14.2: an older Push or Bundle", sent, ack(from, 5, false, 0))
					default:
						wantSent(t, "P14.2: an older Grant or Ack", sent)
					}
				}
			}
		}
	}
}

// Of a later term: each role is a follower of it first. Left and Wait stay, unless the kind says otherwise.
func TestLaterTerm(t *testing.T) {
	for _, r := range roles() {
		for _, term := range []int64{6, 7, 1 << 32, top} {
			fresh := with(follower(), func(f *api.Raft) { f.Term, f.Left = term, r.Left })
			for _, kind := range []int{api.Grant, api.Ack} {
				m := message(kind, term)
				m.Yes, m.Index = true, 6
				got, sent := handle(t, r, m)
				wantNode(t, "P14.2: a later term", got, fresh)
				wantSent(t, "P14.2: a later term", sent)
			}
			older := message(api.Ask, term)
			older.Index, older.LogTerm = 9, 4
			got, sent := handle(t, r, older)
			wantNode(t, "P14.2: a later Ask with an older log", got, fresh)
			wantSent(t, "P14.2: a later Ask with an older log", sent, grant(3, term, false))
			newer := message(api.Ask, term)
			newer.Index, newer.LogTerm = 6, 5
			got, sent = handle(t, r, newer)
			wantNode(t, "P14.2: a later Ask", got, with(fresh, func(f *api.Raft) { f.Vote, f.Left = 3, 13 }))
			wantSent(t, "P14.2: a later Ask", sent, grant(3, term, true))
			gap := message(api.Push, term)
			gap.Index, gap.LogTerm = 9, 5
			got, sent = handle(t, r, gap)
			wantNode(t, "P14.2: a later Push", got, with(fresh, func(f *api.Raft) { f.Leader, f.Left = 3, 13 }))
			wantSent(t, "P14.2: a later Push", sent, ack(3, term, false, 6))
			got, sent = handle(t, r, message(api.Bundle, term))
			wantNode(t, "P14.2: a later Bundle", got, with(fresh, func(f *api.Raft) { f.Leader, f.Left = 3, 13 }))
			wantSent(t, "P14.2: a later Bundle", sent, ack(3, term, true, 3))
		}
	}
}

func TestAsk(t *testing.T) {
	for _, vote := range []int{0, 1, 2, 3} {
		for _, end := range []struct {
			index, term int64
			newer       bool
		}{{6, 5, true}, {7, 5, true}, {top, 5, true}, {5, 5, false}, {0, 5, false}, {9, 4, false}, {top, 4, false}, {6, 4, false}, {top, 0, false}, {0, 0, false}} {
			r := with(follower(), func(r *api.Raft) { r.Vote, r.Leader = vote, 1 })
			m := message(api.Ask, 5)
			m.Index, m.LogTerm = end.index, end.term
			got, sent := handle(t, r, m)
			yes := end.newer && (vote == 0 || vote == 3)
			want := lend(r)
			if yes {
				want.Vote, want.Left = 3, 13
			}
			wantNode(t, "P14.2: Ask", got, want)
			wantSent(t, "P14.2: Ask", sent, grant(3, 5, yes))
		}
	}
	shorter := with(follower(), func(r *api.Raft) { r.Trail = log(2, 1, 1, 3, 3, 4) })
	m := message(api.Ask, 5)
	m.LogTerm = 5 // a log whose last term is above is newer, however short
	if got, sent := handle(t, shorter, m); got.Vote != 3 || !sent[0].Yes {
		t.Errorf("P14.2: Ask with a later last term: %s", told(got))
	}
	empty := api.Raft{Id: 2, Conf: []int{1, 2, 3}, Left: 1, Wait: 11}
	got, sent := handle(t, empty, message(api.Ask, 1))
	wantNode(t, "P14.2: Ask of an empty log", got, api.Raft{Id: 2, Conf: []int{1, 2, 3}, Term: 1, Vote: 3, Left: 11, Wait: 11})
	wantSent(t, "P14.2: Ask of an empty log", sent, grant(3, 1, true))
	based := api.Raft{Id: 2, Conf: []int{1, 2, 3}, Term: 4, Trail: log(7, 4), Commit: 7, Left: 1, Wait: 11}
	for index := int64(5); index < 10; index++ {
		m := message(api.Ask, 5)
		m.Index, m.LogTerm = index, 4
		if got, sent := handle(t, based, m); (got.Vote == 3) != (index >= 7) || sent[0].Yes != (index >= 7) {
			t.Errorf("P14.2: Ask with the Index %d: %s", index, told(got))
		}
	}
}

// Candidates and leaders vote for nobody else in their term.
func TestAskOfOthers(t *testing.T) {
	for _, r := range []api.Raft{candidate(), leader()} {
		for _, from := range []int{1, 3} {
			m := api.Message{Kind: api.Ask, From: from, To: 2, Term: 5, Index: top, LogTerm: 5}
			got, sent := handle(t, r, m)
			wantNode(t, "P14.2: Ask of one that stands or leads", got, r)
			wantSent(t, "P14.2: Ask of one that stands or leads", sent, grant(from, 5, false))
		}
	}
}

func TestGrant(t *testing.T) {
	no, yes := message(api.Grant, 5), message(api.Grant, 5)
	yes.Yes = true
	for _, r := range []api.Raft{follower(), leader()} {
		for _, m := range []api.Message{no, yes} {
			got, sent := handle(t, r, m)
			wantNode(t, "P14.2: Grant of one that doesn't stand", got, r)
			wantSent(t, "P14.2: Grant of one that doesn't stand", sent)
		}
	}
	got, sent := handle(t, candidate(), no)
	wantNode(t, "P14.2: Grant without Yes", got, candidate())
	wantSent(t, "P14.2: Grant without Yes", sent)
	got, sent = handle(t, candidate(), yes)
	want := with(leader(), func(r *api.Raft) {
		r.Trail.Entries = append(r.Trail.Entries, api.Entry{Term: 5})
		r.Next, r.Match = []int64{7, 8, 7}, []int64{0, 7, 0}
	})
	wantNode(t, "P14.2: Grant that wins", got, want)
	wantSent(t, "P14.2: Grant that wins", sent, push(1, 6, 5, 3, api.Entry{Term: 5}), push(3, 6, 5, 3, api.Entry{Term: 5}))
}

// Votes come one behind the other; one that came is not counted again.
func TestGrantsOfFive(t *testing.T) {
	r := with(five(), func(r *api.Raft) { r.Votes, r.Leader = []int{30}, 20 })
	vote := func(from int, yes bool) api.Message {
		return api.Message{Kind: api.Grant, From: from, To: 30, Term: 4, Yes: yes}
	}
	for _, m := range []api.Message{vote(50, true), vote(50, true), vote(50, false), vote(10, false), vote(50, true)} {
		got, sent := handle(t, r, m)
		wantNode(t, "P14.2: Grant of five", got, with(r, func(r *api.Raft) { r.Votes = []int{30, 50} }))
		wantSent(t, "P14.2: Grant of five", sent)
		r = got
	}
	got, sent := handle(t, r, vote(20, true))
	if got.Role != api.Leader || got.Leader != 30 || len(got.Votes) != 0 || got.Left != 2 || got.Wait != 19 || len(sent) != 4 || got.Commit != 0 {
		t.Errorf("P14.2: with three of five: %s, %s", told(got), toldMessages(sent))
	}
	if !slices.Equal(got.Next, []int64{3, 3, 4, 3, 3}) || !slices.Equal(got.Match, []int64{0, 0, 3, 0, 0}) {
		t.Errorf("P14.2: with three of five: %s", told(got))
	}
	four := with(five(), func(r *api.Raft) { r.Conf, r.Votes = []int{10, 20, 30, 40}, []int{30} })
	four, _ = handle(t, four, vote(40, true))
	if four.Role != api.Candidate || !slices.Equal(four.Votes, []int{30, 40}) {
		t.Errorf("P14.2: with two of four: %s", told(four))
	}
	if four, _ = handle(t, four, vote(10, true)); four.Role != api.Leader {
		t.Errorf("P14.2: with three of four: %s", told(four))
	}
}

// pushOf is a Push of node 3 to node 2 in the term 5.
func pushOf(index, logTerm, commit int64, entries ...api.Entry) api.Message {
	return api.Message{Kind: api.Push, From: 3, To: 2, Term: 5, Index: index, LogTerm: logTerm, Commit: commit, Entries: entries}
}

// wantPush holds what a Push makes of the log and of Commit, of a follower and of a candidate, and what is answered.
func wantPush(t *testing.T, what string, m api.Message, l api.Trail, commit int64, yes bool, index int64) {
	t.Helper()
	for _, r := range []api.Raft{follower(), candidate(), with(follower(), func(r *api.Raft) { r.Leader, r.Left = 1, 0 })} {
		got, sent := handle(t, r, m)
		want := with(follower(), func(w *api.Raft) { w.Vote, w.Leader, w.Left, w.Trail, w.Commit = r.Vote, 3, 13, l, commit })
		wantNode(t, "P14.2: Push: "+what, got, want)
		wantSent(t, "P14.2: Push: "+what, sent, ack(3, 5, yes, index))
	}
}

func TestPushThatAgrees(t *testing.T) {
	l := follower().Trail
	wantPush(t, "nothing but a beat", pushOf(6, 5, 0), l, 3, true, 6)
	wantPush(t, "a beat in the midst", pushOf(4, 3, 0), l, 3, true, 4)
	wantPush(t, "a beat at Base", pushOf(2, 1, 0), l, 3, true, 2)
	wantPush(t, "all", pushOf(2, 1, 0, named(1, 3, 3, 5)...), l, 3, true, 6)
	wantPush(t, "fewer", pushOf(2, 1, 0, named(1, 3)...), l, 3, true, 4)
	wantPush(t, "the last one", pushOf(5, 3, 0, named(5)...), l, 3, true, 6)
	more := named(3, 5, 5, 5)
	wantPush(t, "more", pushOf(4, 3, 0, more...), api.Trail{Base: 2, BaseTerm: 1, Entries: slices.Concat(l.Entries, more[2:])}, 3, true, 8)
	wantPush(t, "behind the last", pushOf(6, 5, 0, named(5)...), api.Trail{Base: 2, BaseTerm: 1, Entries: slices.Concat(l.Entries, named(5))}, 3, true, 7)
	eight := named(5, 5, 5, 5, 5, 5, 5, 5)
	wantPush(t, "eight", pushOf(6, 5, top, eight...), api.Trail{Base: 2, BaseTerm: 1, Entries: slices.Concat(l.Entries, eight)}, 14, true, 14)
}

func TestPushThatParts(t *testing.T) {
	l := follower().Trail
	put := func(keep int, entries []api.Entry) api.Trail {
		return api.Trail{Base: 2, BaseTerm: 1, Entries: slices.Concat(l.Entries[:keep], entries)}
	}
	four := named(4)
	wantPush(t, "at the last number", pushOf(5, 3, 0, four...), put(3, four), 3, true, 6)
	wantPush(t, "in the midst", pushOf(4, 3, 0, four...), put(2, four), 3, true, 5)
	wantPush(t, "behind Commit", pushOf(3, 1, 0, four...), put(1, four), 3, true, 4)
	wantPush(t, "at Commit", pushOf(2, 1, 0, four...), l, 3, false, 1)
	long := named(1, 3, 4, 4, 5, 5)
	wantPush(t, "behind some that agree", pushOf(2, 1, 0, long...), put(2, long[2:]), 3, true, 8)
	wantPush(t, "and what is put is agreed on", pushOf(2, 1, 7, long...), put(2, long[2:]), 7, true, 8)
	wantPush(t, "at Commit, with more behind it", pushOf(2, 1, 9, named(3, 3, 3, 5)...), l, 3, false, 1)
}

func TestPushThatDoesNotFit(t *testing.T) {
	l := follower().Trail
	wantPush(t, "a gap", pushOf(7, 5, 9), l, 3, false, 6)
	wantPush(t, "a gap", pushOf(8, 5, 9, named(5)...), l, 3, false, 6)
	wantPush(t, "a gap up to 2^40", pushOf(top, 5, top, named(5)...), l, 3, false, 6)
	wantPush(t, "another term at the last number", pushOf(6, 4, 9), l, 3, false, 5)
	wantPush(t, "another term ahead of it", pushOf(5, 4, 9), l, 3, false, 4)
	wantPush(t, "another term at Commit", pushOf(3, 3, 9), l, 3, false, 2)
	wantPush(t, "another term at Base", pushOf(2, 2, 9), l, 3, false, 1)
	wantPush(t, "below Base, against it", pushOf(1, 0, 9, named(2, 3)...), l, 3, false, 0)
	wantPush(t, "below Base, against it", pushOf(0, 0, 9, named(1, 2, 3)...), l, 3, false, 0)
	zero := api.Raft{Id: 2, Conf: []int{1, 2, 3}, Term: 5, Left: 1, Wait: 13}
	got, sent := handle(t, zero, pushOf(0, 1, 9, named(1)...))
	wantNode(t, "P14.2: Push: another term at 0", got, with(zero, func(r *api.Raft) { r.Leader, r.Left = 3, 13 }))
	wantSent(t, "P14.2: Push: another term at 0", sent, ack(3, 5, false, 0))
	got, sent = handle(t, zero, pushOf(4, 1, 9, named(1)...))
	wantNode(t, "P14.2: Push: a gap behind 0", got, with(zero, func(r *api.Raft) { r.Leader, r.Left = 3, 13 }))
	wantSent(t, "P14.2: Push: a gap behind 0", sent, ack(3, 5, false, 0))
}

func TestPushBelowTheBase(t *testing.T) {
	l := follower().Trail
	wantPush(t, "fewer than are left out", pushOf(0, 0, 9, named(4)...), l, 3, true, 2)
	wantPush(t, "none", pushOf(0, 0, 9), l, 3, true, 2)
	wantPush(t, "none", pushOf(1, 5, 9), l, 3, true, 2)
	wantPush(t, "as many", pushOf(0, 0, 9, named(1, 1)...), l, 3, true, 2)
	wantPush(t, "more that agree", pushOf(0, 0, 9, named(1, 1, 1, 3)...), l, 4, true, 4)
	long := named(1, 1, 3, 3, 5, 5)
	wantPush(t, "more than the log has", pushOf(1, 1, 9, long...), api.Trail{Base: 2, BaseTerm: 1, Entries: slices.Concat(l.Entries, long[5:])}, 7, true, 7)
	parts := named(1, 1, 4)
	wantPush(t, "and parts", pushOf(1, 1, 9, parts...), api.Trail{Base: 2, BaseTerm: 1, Entries: slices.Concat(l.Entries[:1], parts[2:])}, 4, true, 4)
	wantPush(t, "and parts at Commit", pushOf(1, 1, 9, named(1, 4)...), l, 3, false, 0)
}

// Commit rises to the lesser one of m's Commit and the last number of what came, and never falls.
func TestPushAndCommit(t *testing.T) {
	l := follower().Trail
	for _, commit := range []int64{0, 1, 2, 3, 4, 5, 6, 7, 8, 1 << 32, top} {
		name := "Commit " + strconv.FormatInt(commit, 10)
		wantPush(t, name, pushOf(6, 5, commit), l, max(3, min(commit, 6)), true, 6)
		wantPush(t, name, pushOf(4, 3, commit), l, max(3, min(commit, 4)), true, 4)
		wantPush(t, name, pushOf(2, 1, commit), l, 3, true, 2)
		wantPush(t, name, pushOf(2, 1, commit, named(1, 3, 3)...), l, max(3, min(commit, 5)), true, 5)
		wantPush(t, name, pushOf(6, 5, commit, named(5, 5)...), api.Trail{Base: 2, BaseTerm: 1, Entries: slices.Concat(l.Entries, named(5, 5))}, max(3, min(commit, 8)), true, 8)
		wantPush(t, name, pushOf(7, 5, commit), l, 3, false, 6)
	}
}

func TestPushOntoAFullLog(t *testing.T) {
	for _, full := range []api.Trail{many(9, 1, api.MaxLog, 5), log(top, 5), log(top-1, 5, 5)} {
		last := full.Base + int64(len(full.Entries))
		r := with(follower(), func(r *api.Raft) { r.Trail, r.Commit = full, full.Base })
		got, sent := handle(t, r, pushOf(last, 5, last, named(5)...))
		if len(got.Trail.Entries) != len(full.Entries) || got.Commit != full.Base || got.Leader != 3 {
			t.Errorf("P14.2: Push onto a full log: %s", told(got))
		}
		wantSent(t, "P14.2: Push onto a full log", sent, ack(3, 5, false, last-1))
		got, sent = handle(t, r, pushOf(last, 5, last))
		if got.Commit != last {
			t.Errorf("P14.2: a beat to a full log: %s", told(got))
		}
		wantSent(t, "P14.2: a beat to a full log", sent, ack(3, 5, true, last))
	}
	r := with(follower(), func(r *api.Raft) { r.Trail, r.Commit = many(9, 1, api.MaxLog-1, 5), 9 })
	if got, sent := handle(t, r, pushOf(api.MaxLog+8, 5, top, named(5)...)); got.Commit != api.MaxLog+9 || !sent[0].Yes {
		t.Errorf("P14.2: Push that fills a log: %s", told(got))
	}
}

// A leader doesn't hear of another one in its own term.
func TestPushAndBundleToALeader(t *testing.T) {
	for _, m := range []api.Message{pushOf(6, 5, 9), pushOf(6, 5, 9, named(5)...), pushOf(9, 5, 0), {Kind: api.Bundle, From: 3, To: 2, Term: 5, Index: 9, LogTerm: 5, Data: "other"}, {Kind: api.Bundle, From: 1, To: 2, Term: 5}} {
		got, sent := handle(t, leader(), m)
		wantNode(t, "P14.2: Push or Bundle to a leader", got, leader())
		wantSent(t, "P14.2: Push or Bundle to a leader", sent)
	}
}

func TestBundle(t *testing.T) {
	l := follower().Trail
	for _, c := range []struct {
		what           string
		index, logTerm int64
		log            api.Trail
		snap           string
		commit         int64
	}{
		{"at 0", 0, 0, l, "snap", 3}, {"below Base", 1, 1, l, "snap", 3}, {"at Base", 2, 1, l, "snap", 3}, {"at Commit", 3, 1, l, "snap", 3}, {"at Commit, of another term", 3, 2, l, "snap", 3}, {"at Base, of the term 0", 2, 0, l, "snap", 3},
		{"that the log has", 4, 3, api.Trail{Base: 4, BaseTerm: 3, Entries: l.Entries[2:]}, "other", 4}, {"that the log has", 5, 3, api.Trail{Base: 5, BaseTerm: 3, Entries: l.Entries[3:]}, "other", 5},
		{"that the log ends with", 6, 5, log(6, 5), "other", 6},
		{"of another term", 4, 2, log(4, 2), "other", 4}, {"of a later term", 4, 4, log(4, 4), "other", 4}, {"of another term at the end", 6, 4, log(6, 4), "other", 6}, {"of the term 0", 5, 0, log(5, 0), "other", 5},
		{"behind the end", 7, 5, log(7, 5), "other", 7}, {"far behind the end", 99, 5, log(99, 5), "other", 99}, {"of the term 0 behind the end", 7, 0, log(7, 0), "other", 7}, {"at 2^40", top, 5, log(top, 5), "other", top},
	} {
		for _, r := range []api.Raft{follower(), candidate(), with(follower(), func(r *api.Raft) { r.Leader, r.Left = 1, 0 })} {
			m := api.Message{Kind: api.Bundle, From: 3, To: 2, Term: 5, Index: c.index, LogTerm: c.logTerm, Commit: top, Data: "other", Entries: named(5, 5)}
			got, sent := handle(t, r, m)
			want := with(follower(), func(w *api.Raft) {
				w.Vote, w.Leader, w.Left, w.Trail, w.Snap, w.Commit = r.Vote, 3, 13, c.log, c.snap, c.commit
			})
			wantNode(t, "P14.2: Bundle "+c.what, got, want)
			wantSent(t, "P14.2: Bundle "+c.what, sent, ack(3, 5, true, c.commit))
		}
	}
	empty := api.Raft{Id: 2, Conf: []int{1, 2, 3}, Left: 1, Wait: 13}
	got, _ := handle(t, empty, api.Message{Kind: api.Bundle, From: 3, To: 2, Term: 5, Index: 4, LogTerm: 5, Data: text(api.MaxSnap)})
	wantNode(t, "P14.2: Bundle to a new node", got, api.Raft{Id: 2, Conf: []int{1, 2, 3}, Term: 5, Leader: 3, Trail: log(4, 5), Snap: text(api.MaxSnap), Commit: 4, Left: 13, Wait: 13})
}

// ackOf is an Ack of node 3 to node 2 in the term 5.
func ackOf(yes bool, index int64) api.Message {
	return api.Message{Kind: api.Ack, From: 3, To: 2, Term: 5, Yes: yes, Index: index}
}

func TestAckOfOthers(t *testing.T) {
	for _, r := range []api.Raft{follower(), candidate()} {
		for _, m := range []api.Message{ackOf(true, 6), ackOf(false, 6), ackOf(true, 0), ackOf(false, 0)} {
			got, sent := handle(t, r, m)
			wantNode(t, "P14.2: Ack of one that doesn't lead", got, r)
			wantSent(t, "P14.2: Ack of one that doesn't lead", sent)
		}
	}
}

func TestAckBehindTheLast(t *testing.T) {
	for _, index := range []int64{7, 8, 1 << 32, top} {
		for _, yes := range []bool{false, true} {
			got, sent := handle(t, leader(), ackOf(yes, index))
			wantNode(t, "P14.2: Ack behind the last number", got, leader())
			wantSent(t, "P14.2: Ack behind the last number", sent)
		}
	}
}

// leader()'s third node has the Next 4 and the Match 2.
func TestAckWithYes(t *testing.T) {
	entries := leader().Trail.Entries
	terms := []int64{1, 1, 3, 3, 5} // of the numbers 2 to 6
	for index := int64(0); index <= 6; index++ {
		got, sent := handle(t, leader(), ackOf(true, index))
		match := max(2, index)
		want := with(leader(), func(r *api.Raft) { r.Match[2], r.Next[2] = match, match+1 })
		if index == 6 { // the only one whose entry has the leader's term
			want.Commit = 6
			wantSent(t, "P14.2: Ack with Yes of all", sent)
		} else {
			wantSent(t, "P14.2: Ack with Yes", sent, push(3, match, terms[match-2], 3, entries[match-2:]...))
		}
		wantNode(t, "P14.2: Ack with Yes", got, want)
	}
}

// What is pushed to the one that acked tells what is agreed on by its Ack.
func TestAckTellsCommit(t *testing.T) {
	r := with(leader(), func(r *api.Raft) {
		r.Trail = log(2, 1, 1, 5, 5, 5)
		r.Next, r.Match = []int64{7, 7, 4}, []int64{0, 6, 2}
	})
	got, sent := handle(t, r, ackOf(true, 5))
	wantNode(t, "P14.2: Ack that agrees", got, with(r, func(r *api.Raft) { r.Commit, r.Next[2], r.Match[2] = 5, 6, 5 }))
	wantSent(t, "P14.2: Ack that agrees", sent, push(3, 5, 5, 5, r.Trail.Entries[3]))
}

func TestAckWithoutYes(t *testing.T) {
	entries := leader().Trail.Entries
	terms := []int64{1, 1, 3, 3, 5}
	for match := int64(0); match <= 6; match++ {
		for next := match + 1; next <= 7; next++ {
			for index := int64(0); index <= 6; index++ {
				r := with(leader(), func(r *api.Raft) { r.Next[2], r.Match[2] = next, match })
				got, sent := handle(t, r, ackOf(false, index))
				then := max(min(index+1, next-1), match+1)
				wantNode(t, "P14.2: Ack without Yes", got, with(r, func(r *api.Raft) { r.Next[2] = then }))
				if then <= 2 {
					wantSent(t, "P14.2: Ack without Yes", sent, bundle(3, 2, 1, "snap"))
				} else {
					wantSent(t, "P14.2: Ack without Yes", sent, push(3, then-1, terms[then-3], 3, entries[then-3:]...))
				}
			}
		}
	}
}

// A Next that is at most Base is answered by a Bundle, also behind an Ack with Yes.
func TestAckBelowTheBase(t *testing.T) {
	for _, yes := range []bool{false, true} {
		for index := int64(0); index <= 1; index++ {
			r := with(leader(), func(r *api.Raft) { r.Next[2], r.Match[2] = 3, 0 })
			got, sent := handle(t, r, ackOf(yes, index))
			if got.Next[2] != index+1 {
				t.Errorf("P14.2: Ack below the base: %s", told(got))
			}
			wantSent(t, "P14.2: Ack below the base", sent, bundle(3, 2, 1, "snap"))
		}
	}
}

// More than half must have an entry, and it must be of the leader's own term; what is ahead of it comes with it.
func TestAgrees(t *testing.T) {
	for _, c := range []struct {
		conf  int
		terms []int64
		match []int64 // of the others, behind the Ack
		want  int64
	}{
		{3, []int64{5}, []int64{1, 0}, 1}, {3, []int64{5}, []int64{0, 0}, 0}, {3, []int64{4}, []int64{1, 1}, 0}, {3, []int64{4, 5}, []int64{1, 1}, 0}, {3, []int64{4, 5}, []int64{2, 0}, 2}, {3, []int64{4, 5}, []int64{2, 2}, 2},
		{3, []int64{4, 5, 5}, []int64{2, 1}, 2}, {3, []int64{4, 5, 5}, []int64{3, 1}, 3}, {3, []int64{4, 4, 4}, []int64{3, 3}, 0}, {3, []int64{5, 5, 5}, []int64{1, 2}, 2},
		{2, []int64{5}, []int64{1}, 1}, {2, []int64{5, 5}, []int64{1}, 1}, {2, []int64{4, 5}, []int64{1}, 0},
		{4, []int64{5, 5, 5}, []int64{3, 0, 0}, 0}, {4, []int64{5, 5, 5}, []int64{3, 1, 0}, 1}, {4, []int64{5, 5, 5}, []int64{3, 2, 2}, 2}, {4, []int64{5, 5, 5}, []int64{3, 3, 0}, 3},
		{5, []int64{5, 5, 5}, []int64{3, 0, 0, 0}, 0}, {5, []int64{5, 5, 5}, []int64{3, 0, 2, 0}, 2}, {5, []int64{4, 5, 5}, []int64{1, 1, 1, 1}, 0}, {5, []int64{4, 5, 5}, []int64{2, 1, 2, 1}, 2}, {5, []int64{5, 5, 5}, []int64{3, 1, 1, 1}, 1},
	} {
		last := int64(len(c.terms))
		r := api.Raft{Id: 1, Term: 5, Vote: 1, Role: api.Leader, Leader: 1, Trail: log(0, 0, c.terms...), Left: 2, Wait: 10, Match: append([]int64{last}, c.match...)}
		for i := range c.conf {
			r.Conf, r.Next = append(r.Conf, i+1), append(r.Next, r.Match[i]+1)
		}
		r.Match[1] = 0 // what the Ack raises
		got, _ := handle(t, r, api.Message{Kind: api.Ack, From: 2, To: 1, Term: 5, Yes: true, Index: c.match[0]})
		if got.Commit != c.want {
			t.Errorf("P14.2: terms %v, match %v: Commit %d, want %d", c.terms, c.match, got.Commit, c.want)
		}
	}
}

// An Ack doesn't let Commit fall, though fewer have reached it than it says.
func TestAgreesOnNothingLess(t *testing.T) {
	r := with(leader(), func(r *api.Raft) {
		r.Trail, r.Commit = log(2, 1, 5, 5, 5, 5), 6
		r.Next, r.Match = []int64{7, 7, 3}, []int64{0, 6, 0}
	})
	for index := range int64(7) {
		if got, _ := handle(t, r, ackOf(true, index)); got.Commit != 6 {
			t.Errorf("P14.4: Commit falls: %s", told(got))
		}
	}
}

// Each kind to each role, with each small number, with and without Yes.
func TestSmallMessages(t *testing.T) {
	nodes := roles()
	for _, r := range roles() {
		nodes = append(nodes, with(r, func(r *api.Raft) { r.Commit, r.Leader, r.Left = 6, 2, 0 }), with(r, func(r *api.Raft) { r.Commit = 2 }))
	}
	count := 0
	for _, r := range nodes {
		for kind := api.Ask; kind <= api.Bundle; kind++ {
			for term := int64(4); term <= 6; term++ {
				for index := range int64(9) {
					for logTerm := range term + 1 {
						for _, entries := range [][]api.Entry{nil, named(max(1, logTerm)), named(max(1, logTerm), term), named(term, term, term)} {
							m := api.Message{Kind: kind, From: 1, To: 2, Term: term, Index: index, LogTerm: logTerm, Commit: index / 2 * 3, Yes: index%2 == logTerm%2, Entries: entries, Data: "other"}
							handle(t, r, m)
							m.Yes, m.Commit = !m.Yes, 4
							handle(t, r, m)
							count++
						}
					}
				}
			}
		}
		if t.Failed() {
			return
		}
	}
	if count < 10000 {
		t.Errorf("only %d messages", count)
	}
}
