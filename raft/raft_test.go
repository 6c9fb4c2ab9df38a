package raft_test

import (
	"math"
	"slices"
	"strconv"
	"strings"
	"testing"

	"matins/api"
	"matins/raft"
)

// ends are numbers at both ends of their range, and around what the limits or fewer bits would mix up.
var ends = []int64{
	math.MinInt64, math.MinInt64 + 1, -top - 1, -top, -1<<32 - 1, math.MinInt32, -2, -1, 0, 1, 2, 3, 4, 5, 6, 7, 9, 10, 11,
	math.MaxInt32, 1<<32 - 1, 1 << 32, 1<<32 + 1, top - 1, top, top + 1, math.MaxInt64 - 1, math.MaxInt64,
}

// list is entries of some terms, each with a Data of its own.
func list(terms ...int64) []api.Entry {
	var l []api.Entry
	for i, term := range terms {
		l = append(l, api.Entry{Term: term, Data: "d" + strconv.Itoa(i)})
	}
	return l
}

func log(base, baseTerm int64, terms ...int64) api.Trail {
	return api.Trail{Base: base, BaseTerm: baseTerm, Entries: list(terms...)}
}

// many is a log of a number of entries, all of one term.
func many(base, baseTerm int64, count int, term int64) api.Trail {
	return log(base, baseTerm, slices.Repeat([]int64{term}, count)...)
}

// named is entries of some terms whose Data say that they came by a message.
func named(terms ...int64) []api.Entry {
	l := list(terms...)
	for i := range l {
		l[i].Data = "m" + l[i].Data
	}
	return l
}

func text(bytes int) string { return strings.Repeat("x", bytes) }

// with is a node with a change.
func with(r api.Raft, change func(r *api.Raft)) api.Raft {
	r = lend(r)
	change(&r)
	return r
}

// The nodes that tests begin with: node 2 of 1, 2, 3 in the term 5, whose log knows the numbers 2 (of the term 1) to 6 (of the term 5), agreed on up to 3.

func follower() api.Raft {
	return api.Raft{Id: 2, Conf: []int{1, 2, 3}, Term: 5, Trail: log(2, 1, 1, 3, 3, 5), Snap: "snap", Commit: 3, Left: 7, Wait: 13}
}

func candidate() api.Raft {
	return with(follower(), func(r *api.Raft) { r.Role, r.Vote, r.Votes = api.Candidate, 2, []int{2} })
}

func leader() api.Raft {
	return with(follower(), func(r *api.Raft) {
		r.Role, r.Vote, r.Leader, r.Left = api.Leader, 2, 2, 2
		r.Next, r.Match = []int64{7, 7, 4}, []int64{0, 6, 2}
	})
}

func roles() []api.Raft { return []api.Raft{follower(), candidate(), leader()} }

// five is a candidate of five nodes.
func five() api.Raft {
	return api.Raft{Id: 30, Conf: []int{10, 20, 30, 40, 50}, Term: 4, Vote: 30, Role: api.Candidate, Trail: log(0, 0, 1, 4), Left: 9, Wait: 19, Votes: []int{30, 10}}
}

// change is a node with what was changed, and whether it is right.
type change struct {
	what  string
	node  api.Raft
	right bool
}

// each is the changes of a field, one for each of some values.
func each[T any](what string, r api.Raft, right bool, set func(r *api.Raft, v T), values ...T) []change {
	var l []change
	for _, v := range values {
		l = append(l, change{what, with(r, func(r *api.Raft) { set(r, v) }), right})
	}
	return l
}

// changesOfAll are changes of what nodes of all roles have.
func changesOfAll(r api.Raft) []change {
	term := func(r *api.Raft, v int64) { r.Term = v }
	snap := func(r *api.Raft, v int) { r.Snap = text(v) }
	commit := func(r *api.Raft, v int64) { r.Commit = v }
	left := func(r *api.Raft, v int) { r.Left = v }
	wait := func(r *api.Raft, v int) { r.Wait = v }
	logs := func(r *api.Raft, v api.Trail) { r.Trail = v }
	role := func(r *api.Raft, v int) { r.Role = v }
	conf := func(r *api.Raft, v []int) { r.Conf = v }
	id := func(r *api.Raft, v int) { r.Id = v }
	return slices.Concat(
		each("none", r, true, term, 5),
		each("Conf", r, false, conf, nil, []int{}, []int{2, 1, 3}, []int{1, 2, 2}, []int{1, 3, 2}, []int{0, 1, 2}, []int{-1, 2, 3}, []int{1, 2, 3, 4, 5, 6, 7, 8}, []int{1, 3, 4}, []int{1, 3, 22}),
		each("Id", r, false, id, 0, -2, 4, 9, math.MinInt, math.MaxInt, 2+1<<32),
		each("Term", r, true, term, 6, 1<<32, top-1, top),
		each("Term", r, false, term, 4, 1, 0, -1, top+1, math.MinInt64, math.MaxInt64, 5-1<<32),
		each("Role", r, false, role, -1, 3, 4, math.MinInt, math.MaxInt, r.Role+1<<32),
		each("Snap", r, true, snap, 0, 1, api.MaxSnap-1, api.MaxSnap),
		each("Snap", r, false, snap, api.MaxSnap+1, api.MaxText),
		each("Commit", r, true, commit, 2, 3, 5, 6),
		each("Commit", r, false, commit, 1, 0, -1, 7, top, math.MinInt64, math.MaxInt64, 3+1<<32),
		each("Left", r, true, left, 0, 1, 10, 99, 100),
		each("Left", r, false, left, -1, 101, math.MinInt, math.MaxInt, 1<<32),
		each("Wait", r, true, wait, 10, 11, 18, 19),
		each("Wait", r, false, wait, 9, 20, 0, -1, math.MinInt, math.MaxInt, 10+1<<32),
		each("Trail", r, true, logs, log(2, 0, 1, 3, 3, 5), log(2, 1, 5, 5, 5, 5), log(3, 5, 5, 5, 5), log(2, 1, 3, 3, 3, 4), log(2, 1, 1, 1, 1, 1)),
		each("Trail", r, false, logs, log(2, 1, 1, 3, 3, 6), log(2, 1, 6, 6, 6, 6), log(2, 6, 6, 6, 6, 6), log(2, 1, 1, 3, 2, 5), log(2, 1, 0, 3, 3, 5), log(2, -1, 1, 3, 3, 5), log(-1, 0, 1, 3, 3, 5), log(2, 4, 1, 3, 3, 5), log(top, 1, 1, 3, 3, 5)),
		each("Trail, and Commit", r, false, logs, log(4, 1, 3, 5), log(2, 1), api.Trail{}, log(2, top+1)),
	)
}

func nodeValues() []int { return []int{4, -1, -2, 12, math.MinInt, math.MaxInt, 1 << 32, 2 + 1<<32} }

func changesOfFollower() []change {
	r := follower()
	vote := func(r *api.Raft, v int) { r.Vote = v }
	lead := func(r *api.Raft, v int) { r.Leader = v }
	votes := func(r *api.Raft, v []int) { r.Votes = v }
	next := func(r *api.Raft, v []int64) { r.Next = v }
	match := func(r *api.Raft, v []int64) { r.Match = v }
	places := func(r *api.Raft, v []int64) { r.Next, r.Match = []int64{7, 7, 7}, v }
	role := func(r *api.Raft, v int) { r.Role = v }
	return slices.Concat(changesOfAll(r),
		each("Vote", r, true, vote, 0, 1, 2, 3), each("Vote", r, false, vote, nodeValues()...),
		each("Leader", r, true, lead, 0, 1, 2, 3), each("Leader", r, false, lead, nodeValues()...),
		each("Votes", r, true, votes, nil, []int{}), each("Votes", r, false, votes, []int{2}, []int{0}, []int{1}, []int{2, 1}),
		each("Next", r, false, next, []int64{0}, []int64{7, 7, 7}), each("Match", r, false, match, []int64{0}, []int64{0, 0, 0}),
		each("Next and Match", r, false, places, []int64{0, 6, 0}), each("Next", r, true, next, nil, []int64{}), each("Match", r, true, match, nil, []int64{}),
		each("Role", r, false, role, api.Candidate, api.Leader),
	)
}

func changesOfCandidate() []change {
	r := candidate()
	vote := func(r *api.Raft, v int) { r.Vote = v }
	lead := func(r *api.Raft, v int) { r.Leader = v }
	votes := func(r *api.Raft, v []int) { r.Votes = v }
	next := func(r *api.Raft, v []int64) { r.Next = v }
	match := func(r *api.Raft, v []int64) { r.Match = v }
	role := func(r *api.Raft, v int) { r.Role = v }
	alone := func(r *api.Raft, v []int) { r.Conf = v }
	return slices.Concat(changesOfAll(r),
		each("Vote", r, false, vote, 0, 1, 3), each("Vote", r, false, vote, nodeValues()...),
		each("Leader", r, true, lead, 0, 1, 2, 3), each("Leader", r, false, lead, nodeValues()...),
		each("Votes", r, false, votes, nil, []int{}, []int{1}, []int{3}, []int{0}, []int{4}, []int{2, 2}, []int{2, 4}, []int{2, 0}, []int{1, 2}, []int{2, 1}, []int{2, 3}, []int{2, 1, 3}),
		each("Next", r, false, next, []int64{0}, []int64{7, 7, 7}), each("Match", r, false, match, []int64{0}, []int64{0, 6, 0}),
		each("Role", r, false, role, api.Follower, api.Leader),
		each("Conf of one, which its vote wins", r, false, alone, []int{2}),
		each("Conf of two, which it doesn't", r, true, alone, []int{1, 2}, []int{2, 3}),
		each("Votes of five", five(), true, votes, []int{30}, []int{30, 10}, []int{30, 50}, []int{30, 20}),
		each("Votes of five", five(), false, votes, nil, []int{10}, []int{10, 30}, []int{30, 30}, []int{30, 10, 10}, []int{30, 11}, []int{30, 10, 20}, []int{30, 10, 20, 40, 50}, []int{30, 30, 30}, []int{10, 20}),
		each("Votes of four", with(five(), func(r *api.Raft) { r.Conf = r.Conf[:4] }), true, votes, []int{30}, []int{30, 40}),
		each("Votes of four", with(five(), func(r *api.Raft) { r.Conf = r.Conf[:4] }), false, votes, []int{30, 50}, []int{30, 10, 20}),
	)
}

func changesOfLeader() []change {
	r := leader()
	vote := func(r *api.Raft, v int) { r.Vote = v }
	lead := func(r *api.Raft, v int) { r.Leader = v }
	votes := func(r *api.Raft, v []int) { r.Votes = v }
	next := func(r *api.Raft, v []int64) { r.Next = v }
	match := func(r *api.Raft, v []int64) { r.Match = v }
	role := func(r *api.Raft, v int) { r.Role = v }
	type pair struct{ next, match int64 }
	place := func(i int) func(r *api.Raft, v pair) {
		return func(r *api.Raft, v pair) { r.Next[i], r.Match[i] = v.next, v.match }
	}
	l := slices.Concat(changesOfAll(r),
		each("Vote", r, false, vote, 0, 1, 3), each("Vote", r, false, vote, nodeValues()...),
		each("Leader", r, false, lead, 0, 1, 3), each("Leader", r, false, lead, nodeValues()...),
		each("Votes", r, true, votes, nil, []int{}), each("Votes", r, false, votes, []int{2}, []int{0}, []int{1}, []int{2, 1}),
		each("Next", r, false, next, nil, []int64{}, []int64{7}, []int64{7, 7}, []int64{7, 7, 7, 7}),
		each("Match", r, false, match, nil, []int64{}, []int64{0}, []int64{0, 6}, []int64{0, 6, 2, 0}),
		each("Role", r, false, role, api.Follower, api.Candidate),
		each("an empty log", r, true, func(r *api.Raft, v []int64) { r.Trail, r.Commit, r.Next, r.Match = api.Trail{}, 0, v, []int64{0, 0, 0} }, []int64{1, 1, 1}),
		each("an empty log", r, false, func(r *api.Raft, v []int64) { r.Trail, r.Commit, r.Next, r.Match = api.Trail{}, 0, v, []int64{0, 0, 0} }, []int64{0, 1, 1}, []int64{1, 2, 1}, []int64{1, 1, 3}),
		each("the last number", r, true, func(r *api.Raft, v []int64) {
			r.Trail, r.Commit, r.Next, r.Match = log(top, 5), top, v, []int64{0, top, top - 1}
		}, []int64{top + 1, top + 1, top + 1}, []int64{1, top + 1, top}),
		each("the last number", r, false, func(r *api.Raft, v []int64) {
			r.Trail, r.Commit, r.Next, r.Match = log(top, 5), top, v, []int64{0, top, top - 1}
		}, []int64{top + 2, top + 1, top + 1}, []int64{0, top + 1, top}, []int64{1, top, top}, []int64{1, top + 1, top - 1}),
	)
	for i := range 3 {
		l = append(l, each("a place", r, true, place(i), pair{1, 0}, pair{7, 0}, pair{7, 6}, pair{3, 2}, pair{6, 1}, pair{4, 3})...)
		l = append(l, each("a place", r, false, place(i), pair{0, 0}, pair{8, 0}, pair{8, 6}, pair{8, 7}, pair{6, 6}, pair{5, 6}, pair{3, 3}, pair{7, 7}, pair{1, -1}, pair{0, -1}, pair{7, -1}, pair{7, math.MinInt64}, pair{math.MaxInt64, 0}, pair{math.MinInt64, 0}, pair{7, math.MaxInt64}, pair{-3, -4}, pair{7 + 1<<32, 0})...)
	}
	return l
}

func changes() []change {
	return slices.Concat(changesOfFollower(), changesOfCandidate(), changesOfLeader(), []change{{"nothing", api.Raft{}, false}})
}

// wrongs are nodes that aren't right.
func wrongs() []api.Raft {
	var l []api.Raft
	for _, c := range changes() {
		if !c.right {
			l = append(l, c.node)
		}
	}
	return l
}

func TestExamples(t *testing.T) {
	r, err := raft.New(2, []int{1, 2, 3})
	if err != api.OK {
		t.Fatalf("P14.1: New: %d", err)
	}
	var sent []api.Message
	for range 10 {
		wantSent(t, "P14.2: a tick", sent)
		r, sent = tick(t, r, 4)
	}
	want := api.Raft{Id: 2, Conf: []int{1, 2, 3}, Term: 1, Vote: 2, Role: api.Candidate, Left: 14, Wait: 14, Votes: []int{2}}
	wantNode(t, "P14.2: behind ten ticks", r, want)
	wantSent(t, "P14.2: behind ten ticks", sent, api.Message{Kind: api.Ask, From: 2, To: 1, Term: 1}, api.Message{Kind: api.Ask, From: 2, To: 3, Term: 1})
	r, sent = handle(t, r, api.Message{Kind: api.Grant, From: 3, To: 2, Term: 1, Yes: true})
	first := []api.Entry{{Term: 1}}
	want = api.Raft{Id: 2, Conf: []int{1, 2, 3}, Term: 1, Vote: 2, Role: api.Leader, Leader: 2, Trail: api.Trail{Entries: first}, Left: 2, Wait: 14, Next: []int64{1, 2, 1}, Match: []int64{0, 1, 0}}
	wantNode(t, "P14.2: with two votes", r, want)
	wantSent(t, "P14.2: with two votes", sent, api.Message{Kind: api.Push, From: 2, To: 1, Term: 1, Entries: first}, api.Message{Kind: api.Push, From: 2, To: 3, Term: 1, Entries: first})
	r, sent = handle(t, r, api.Message{Kind: api.Ack, From: 3, To: 2, Term: 1, Yes: true, Index: 1})
	want.Commit, want.Next, want.Match = 1, []int64{1, 2, 2}, []int64{0, 1, 1}
	wantNode(t, "P14.2: with an Ack", r, want)
	wantSent(t, "P14.2: with an Ack", sent)
}

func TestExampleOfOne(t *testing.T) {
	r, _ := raft.New(1, []int{1})
	var sent []api.Message
	for range 10 {
		r, sent = tick(t, r, 0)
		wantSent(t, "P14.2: a tick of one", sent)
	}
	wantNode(t, "P14.2: one behind ten ticks", r, api.Raft{Id: 1, Conf: []int{1}, Term: 1, Vote: 1, Role: api.Leader, Leader: 1, Trail: api.Trail{Entries: []api.Entry{{Term: 1}}}, Commit: 1, Left: 2, Wait: 10, Next: []int64{2}, Match: []int64{1}})
}

func TestNew(t *testing.T) {
	for _, conf := range [][]int{{1}, {7}, {math.MaxInt}, {1, 2}, {3, 9}, {1, 2, 3}, {2, 4, 6, 8}, {1, 2, 3, 4, 5, 6, 7}, {10, 20, 30, 40, 50, 60, math.MaxInt}} {
		for _, id := range conf {
			lent := roomy(conf, -7)
			r, err := raft.New(id, lent)
			if err != api.OK {
				t.Errorf("P14.1: New(%d, %v): %d", id, conf, err)
			}
			wantNode(t, "P14.1: New", r, api.Raft{Id: id, Conf: conf, Left: 10, Wait: 10})
			wantCheck(t, "New", r, true)
			if !apart(append(stretches(r), stretchOf(lent))...) || !slices.Equal(room(lent), room(roomy(conf, -7))) {
				t.Errorf("rule 5: New(%d, %v) keeps or changes it", id, conf)
			}
		}
		for _, id := range []int{0, -1, conf[0] - 1, -conf[0], 11, math.MinInt, conf[0] + 1<<32} {
			if !slices.Contains(conf, id) {
				wantNoNew(t, id, conf)
			}
		}
	}
}

func wantNoNew(t *testing.T, id int, conf []int) {
	t.Helper()
	r, err := raft.New(id, conf)
	if err != api.ErrArg {
		t.Errorf("P14.1: New(%d, %v): error %d, want 1", id, conf, err)
	}
	wantNode(t, "P14.1: New, refused", r, api.Raft{})
}

func TestNewRefused(t *testing.T) {
	for _, conf := range [][]int{nil, {}, {0}, {-1}, {0, 1}, {-1, 1}, {1, 1}, {2, 1}, {1, 3, 2}, {1, 2, 2}, {1, 2, 3, 4, 5, 6, 7, 8}, {1, 2, 3, 4, 5, 6, 7, 7}, {math.MinInt, 1}, slices.Repeat([]int{1}, 1000)} {
		for _, id := range append([]int{-1, 0, 1, 2, 3}, conf...) {
			wantNoNew(t, id, conf)
		}
	}
}

func TestCheck(t *testing.T) {
	counts := map[string]int{}
	for _, c := range changes() {
		wantCheck(t, c.what, c.node, c.right)
		if paperCheck(c.node) != c.right {
			t.Errorf("the paper says %v of %s: %s", !c.right, c.what, told(c.node))
		}
		if c.right {
			counts["right"]++
		} else {
			counts["wrong"]++
		}
	}
	if counts["right"] < 60 || counts["wrong"] < 300 {
		t.Errorf("too few nodes: %v", counts)
	}
}

// Each number that a node has, at the ends of its range.
func TestCheckOfEachNumber(t *testing.T) {
	for _, r := range roles() {
		for _, n := range ends {
			for _, c := range [...]api.Raft{
				with(r, func(r *api.Raft) { r.Term = n }), with(r, func(r *api.Raft) { r.Commit = n }), with(r, func(r *api.Raft) { r.Trail.Base = n }), with(r, func(r *api.Raft) { r.Trail.BaseTerm = n }),
				with(r, func(r *api.Raft) { r.Left = int(n) }), with(r, func(r *api.Raft) { r.Wait = int(n) }), with(r, func(r *api.Raft) { r.Id = int(n) }), with(r, func(r *api.Raft) { r.Vote = int(n) }),
				with(r, func(r *api.Raft) { r.Leader = int(n) }), with(r, func(r *api.Raft) { r.Role = int(n) }), with(r, func(r *api.Raft) { r.Trail.Entries[3].Term = n }),
				with(r, func(r *api.Raft) { r.Trail.Base, r.Commit = n, n }), with(r, func(r *api.Raft) { r.Trail, r.Commit, r.Term = log(n, top), n, top }),
			} {
				wantCheck(t, "a number", c, paperCheck(c))
			}
		}
	}
}

// Of a node that isn't right each call answers it as it is, and no messages; Propose and Compact ErrState, ahead of all else.
func TestOfNodesThatAreNotRight(t *testing.T) {
	for _, r := range wrongs() {
		for _, draw := range []int{math.MinInt, -1, 0, 4, math.MaxInt} {
			got, sent := tick(t, r, draw)
			wantNode(t, "P14.2: Tick of one that isn't right", got, r)
			wantSent(t, "P14.2: Tick of one that isn't right", sent)
		}
		for kind := api.Ask; kind <= api.Bundle; kind++ {
			for _, term := range []int64{1, 5, 9, top} {
				for _, from := range []int{1, 3, 10} {
					m := api.Message{Kind: kind, From: from, To: r.Id, Term: term, Index: 6, LogTerm: min(term, 5), Yes: true}
					got, sent := handle(t, r, m)
					wantNode(t, "P14.2: Handle of one that isn't right", got, r)
					wantSent(t, "P14.2: Handle of one that isn't right", sent)
				}
			}
		}
		for _, data := range []string{"", "x", text(api.MaxData + 1)} {
			got, sent, n, err := propose(t, r, data)
			wantNode(t, "P14.2: Propose of one that isn't right", got, r)
			wantSent(t, "P14.2: Propose of one that isn't right", sent)
			if n != 0 || err != api.ErrState {
				t.Errorf("P14.3: Propose of %s: %d, error %d", told(r), n, err)
			}
		}
		for _, to := range []int64{-1, 0, 2, 3, r.Trail.Base, r.Commit, top} {
			for _, snap := range []string{"", "s", text(api.MaxSnap + 1)} {
				got, err := compact(t, r, to, snap)
				wantNode(t, "P14.2: Compact of one that isn't right", got, r)
				if err != api.ErrState {
					t.Errorf("P14.3: Compact of %s: error %d", told(r), err)
				}
			}
		}
		restart(t, r)
	}
}

func TestRestart(t *testing.T) {
	for _, r := range roles() {
		for vote := range 4 {
			r := with(r, func(r *api.Raft) {
				r.Commit, r.Left, r.Wait = 5, 99, 19
				if r.Role == api.Follower {
					r.Vote, r.Leader = vote, 3
				}
			})
			got := restart(t, r)
			want := follower()
			want.Vote, want.Commit, want.Left, want.Wait = r.Vote, 2, 10, 10
			wantNode(t, "P14.1: Restart", got, want)
			wantCheck(t, "Restart", got, true)
			wantNode(t, "P14.1: Restart once more", restart(t, got), got)
		}
	}
	r, _ := raft.New(3, []int{1, 3})
	wantNode(t, "P14.1: Restart of a new one", restart(t, r), r)
	full := with(leader(), func(r *api.Raft) { r.Trail, r.Commit = many(9, 2, api.MaxLog, 5), 4000 })
	got := restart(t, full)
	if got.Commit != 9 || len(got.Trail.Entries) != api.MaxLog || got.Role != api.Follower {
		t.Errorf("P14.1: Restart of a full one: %s", told(got))
	}
}

// What is kept may come without the rest, as a store's records have it.
func TestRestartOfWhatIsKept(t *testing.T) {
	kept := api.Raft{Id: 2, Conf: []int{1, 2, 3}, Term: 5, Vote: 3, Trail: log(2, 1, 1, 3), Snap: "s"}
	wantCheck(t, "what is kept alone", kept, false)
	got := restart(t, kept)
	want := kept
	want.Commit, want.Left, want.Wait = 2, 10, 10
	wantNode(t, "P14.1: Restart of what is kept", got, want)
	wantCheck(t, "Restart of what is kept", got, true)
	wantNode(t, "P14.1: Restart of nothing", restart(t, api.Raft{}), api.Raft{Left: 10, Wait: 10})
}
