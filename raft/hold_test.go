package raft_test

import (
	"fmt"
	"slices"
	"strings"
	"testing"
	"unsafe"

	"matins/api"
	"matins/raft"
	"matins/trail"
)

// The calls of this file stand between the tests and the package: each answer is held against the paper's and against P14.4, and each argument is looked at behind the call.

const spare = 3 // places of spare room behind each list that is handed in

// roomy is a list in new memory with spare room that is filled with what is handed.
func roomy[T any](l []T, fill T) []T {
	out := make([]T, len(l), len(l)+spare)
	copy(out, l)
	for i := len(l); i < cap(out); i++ {
		out[:cap(out)][i] = fill
	}
	return out
}

func lendEntries(l []api.Entry) []api.Entry { return roomy(l, api.Entry{Term: -7, Data: "spare"}) }

func lend(r api.Raft) api.Raft {
	r.Conf = roomy(r.Conf, -7)
	r.Trail.Entries = lendEntries(r.Trail.Entries)
	r.Votes = roomy(r.Votes, -7)
	r.Next = roomy(r.Next, -7)
	r.Match = roomy(r.Match, -7)
	return r
}

func lendMessage(m api.Message) api.Message {
	m.Entries = lendEntries(m.Entries)
	return m
}

func room[T any](l []T) []T { return l[:cap(l)] }

// sameNode holds all fields of two nodes against each other; nil and an empty list are the same.
func sameNode(a, b api.Raft) bool {
	return a.Id == b.Id && slices.Equal(a.Conf, b.Conf) && a.Term == b.Term && a.Vote == b.Vote && a.Role == b.Role && a.Leader == b.Leader &&
		a.Trail.Base == b.Trail.Base && a.Trail.BaseTerm == b.Trail.BaseTerm && slices.Equal(a.Trail.Entries, b.Trail.Entries) && a.Snap == b.Snap &&
		a.Commit == b.Commit && a.Left == b.Left && a.Wait == b.Wait && slices.Equal(a.Votes, b.Votes) && slices.Equal(a.Next, b.Next) && slices.Equal(a.Match, b.Match)
}

// sameRoom is sameNode, and the spare room of the lists too.
func sameRoom(a, b api.Raft) bool {
	return sameNode(a, b) && slices.Equal(room(a.Conf), room(b.Conf)) && slices.Equal(room(a.Trail.Entries), room(b.Trail.Entries)) &&
		slices.Equal(room(a.Votes), room(b.Votes)) && slices.Equal(room(a.Next), room(b.Next)) && slices.Equal(room(a.Match), room(b.Match))
}

func sameMessage(a, b api.Message) bool {
	entries := slices.Equal(a.Entries, b.Entries)
	a.Entries, b.Entries = nil, nil
	return entries && a.Kind == b.Kind && a.From == b.From && a.To == b.To && a.Term == b.Term && a.Index == b.Index && a.LogTerm == b.LogTerm &&
		a.Commit == b.Commit && a.Yes == b.Yes && a.Data == b.Data
}

func sameMessages(a, b []api.Message) bool { return slices.EqualFunc(a, b, sameMessage) }

// short cuts a text for an error's text.
func short(s string) string {
	if len(s) > 12 {
		return s[:12] + ".. of " + fmt.Sprint(len(s))
	}
	return s
}

func toldEntries(l []api.Entry) string {
	s := ""
	for i, e := range l {
		if i == 12 {
			return s + " .. of " + fmt.Sprint(len(l))
		}
		s += fmt.Sprintf(" %d%q", e.Term, short(e.Data))
	}
	return "{" + strings.TrimPrefix(s, " ") + "}"
}

func told(r api.Raft) string {
	return fmt.Sprintf("[Id %d of %v, Term %d, Vote %d, Role %d, Leader %d, Trail %d %d %s, Snap %q, Commit %d, Left %d, Wait %d, Votes %v, Next %v, Match %v]",
		r.Id, r.Conf, r.Term, r.Vote, r.Role, r.Leader, r.Trail.Base, r.Trail.BaseTerm, toldEntries(r.Trail.Entries), short(r.Snap), r.Commit, r.Left, r.Wait, r.Votes, r.Next, r.Match)
}

func toldMessage(m api.Message) string {
	return fmt.Sprintf("[Kind %d, %d to %d, Term %d, Index %d, LogTerm %d, Commit %d, Yes %v, %s, %q]", m.Kind, m.From, m.To, m.Term, m.Index, m.LogTerm, m.Commit, m.Yes, toldEntries(m.Entries), short(m.Data))
}

func toldMessages(l []api.Message) string {
	s := ""
	for _, m := range l {
		s += toldMessage(m)
	}
	return "(" + s + ")"
}

// stretch is a list's memory, with its spare room.
type stretch struct{ from, to uintptr }

func stretchOf[T any](l []T) stretch {
	from := uintptr(unsafe.Pointer(unsafe.SliceData(l)))
	return stretch{from, from + uintptr(cap(l))*unsafe.Sizeof(*new(T))}
}

func stretches(r api.Raft) []stretch {
	return []stretch{stretchOf(r.Conf), stretchOf(r.Trail.Entries), stretchOf(r.Votes), stretchOf(r.Next), stretchOf(r.Match)}
}

func stretchesOfMessages(l []api.Message) []stretch {
	all := []stretch{stretchOf(l)}
	for _, m := range l {
		all = append(all, stretchOf(m.Entries))
	}
	return all
}

// apart tells whether no two of some stretches have memory in common.
func apart(all ...stretch) bool {
	all = slices.DeleteFunc(all, func(s stretch) bool { return s.from == s.to })
	slices.SortFunc(all, func(a, b stretch) int {
		if a.from < b.from {
			return -1
		}
		return 1
	})
	for i := 1; i < len(all); i++ {
		if all[i].from < all[i-1].to {
			return false
		}
	}
	return true
}

// termAt is the term of an entry's number, and false where the log doesn't know it.
func termAt(t api.Trail, n int64) (int64, bool) { return trail.Term(t, n) }

// staid tells whether the numbers up to one that two logs both know are the same in both.
func staid(before, after api.Trail, upTo int64) bool {
	for n := max(before.Base, after.Base); n <= upTo; n++ {
		a, okA := termAt(before, n)
		b, okB := termAt(after, n)
		if okA != okB || a != b {
			return false
		}
	}
	for n := max(before.Base, after.Base) + 1; n <= upTo; n++ {
		if before.Entries[n-before.Base-1] != after.Entries[n-after.Base-1] {
			return false
		}
	}
	return true
}

// steady holds a node behind a call against the right one ahead of it, by P14.4.
func steady(t testing.TB, call string, before, after api.Raft) {
	t.Helper()
	last := before.Trail.Base + int64(len(before.Trail.Entries))
	switch {
	case !paperCheck(after) || !raft.Check(after):
		t.Errorf("P14.4: %s of %s: %s isn't right", call, told(before), told(after))
	case after.Term < before.Term || after.Commit < before.Commit:
		t.Errorf("P14.4: %s of %s: %s: Term or Commit falls", call, told(before), told(after))
	case after.Term == before.Term && after.Vote != before.Vote && before.Vote != 0:
		t.Errorf("P14.4: %s of %s: %s: another Vote", call, told(before), told(after))
	case before.Role == api.Leader && after.Term == before.Term && (after.Role != api.Leader || !staid(before.Trail, after.Trail, last)):
		t.Errorf("P14.4: %s of %s: %s: a leader's entries don't stay", call, told(before), told(after))
	case !staid(before.Trail, after.Trail, before.Commit):
		t.Errorf("P14.4: %s of %s: %s: what is at most Commit doesn't stay", call, told(before), told(after))
	case after.Id != before.Id || !slices.Equal(after.Conf, before.Conf):
		t.Errorf("P14.4: %s of %s: %s: another node", call, told(before), told(after))
	}
}

// look is what each call that answers a node is looked at for: the node that was lent and the one that was answered.
func look(t testing.TB, call string, r, lent, got, want api.Raft) {
	t.Helper()
	if !sameNode(got, want) {
		t.Errorf("%s of %s:\n     %s,\nwant %s", call, told(r), told(got), told(want))
	}
	if !sameRoom(lent, lend(r)) {
		t.Errorf("rule 5: %s of %s changes it: %s", call, told(r), told(lent))
	}
	if paperCheck(r) {
		steady(t, call, r, got)
	}
}

func lookSent(t testing.TB, call string, r api.Raft, got, want []api.Message) {
	t.Helper()
	if !sameMessages(got, want) {
		t.Errorf("%s of %s: it sends\n     %s,\nwant %s", call, told(r), toldMessages(got), toldMessages(want))
	}
}

func tick(t testing.TB, r api.Raft, draw int) (api.Raft, []api.Message) {
	t.Helper()
	lent := lend(r)
	got, sent := raft.Tick(lent, draw)
	want, wantSent := paperTick(lend(r), draw)
	call := fmt.Sprintf("P14.2: Tick(%d)", draw)
	look(t, call, r, lent, got, want)
	lookSent(t, call, r, sent, wantSent)
	if !apart(slices.Concat(stretches(lent), stretches(got), stretchesOfMessages(sent))...) {
		t.Errorf("rule 5: %s of %s: memory is shared", call, told(r))
	}
	return got, sent
}

func handle(t testing.TB, r api.Raft, m api.Message) (api.Raft, []api.Message) {
	t.Helper()
	lent, lentM := lend(r), lendMessage(m)
	got, sent := raft.Handle(lent, lentM)
	want, wantSent := paperHandle(lend(r), lendMessage(m))
	call := "P14.2: Handle " + toldMessage(m)
	look(t, call, r, lent, got, want)
	lookSent(t, call, r, sent, wantSent)
	if clean := lendMessage(m); !sameMessage(lentM, clean) || !slices.Equal(room(lentM.Entries), room(clean.Entries)) {
		t.Errorf("rule 5: %s changes the message: %s", call, toldMessage(lentM))
	}
	if !apart(slices.Concat(stretches(lent), stretches(got), stretchesOfMessages(sent), []stretch{stretchOf(lentM.Entries)})...) {
		t.Errorf("rule 5: %s of %s: memory is shared", call, told(r))
	}
	return got, sent
}

func propose(t testing.TB, r api.Raft, data string) (api.Raft, []api.Message, int64, api.Errno) {
	t.Helper()
	lent := lend(r)
	got, sent, n, err := raft.Propose(lent, data)
	want, wantSent, wantN, wantErr := paperPropose(lend(r), data)
	call := fmt.Sprintf("P14.3: Propose(%q)", short(data))
	look(t, call, r, lent, got, want)
	lookSent(t, call, r, sent, wantSent)
	if n != wantN || err != wantErr {
		t.Errorf("%s of %s: %d, error %d, want %d, %d", call, told(r), n, err, wantN, wantErr)
	}
	if !apart(slices.Concat(stretches(lent), stretches(got), stretchesOfMessages(sent))...) {
		t.Errorf("rule 5: %s of %s: memory is shared", call, told(r))
	}
	return got, sent, n, err
}

func compact(t testing.TB, r api.Raft, to int64, snap string) (api.Raft, api.Errno) {
	t.Helper()
	lent := lend(r)
	got, err := raft.Compact(lent, to, snap)
	want, wantErr := paperCompact(lend(r), to, snap)
	call := fmt.Sprintf("P14.3: Compact(%d, %q)", to, short(snap))
	look(t, call, r, lent, got, want)
	if err != wantErr {
		t.Errorf("%s of %s: error %d, want %d", call, told(r), err, wantErr)
	}
	if !apart(slices.Concat(stretches(lent), stretches(got))...) {
		t.Errorf("rule 5: %s of %s: memory is shared", call, told(r))
	}
	return got, err
}

// restart isn't held against P14.4: a crash takes from a node what isn't kept, Commit too.
func restart(t testing.TB, r api.Raft) api.Raft {
	t.Helper()
	lent := lend(r)
	got := raft.Restart(lent)
	if want := paperRestart(lend(r)); !sameNode(got, want) {
		t.Errorf("P14.1: Restart of %s:\n     %s,\nwant %s", told(r), told(got), told(want))
	}
	if !sameRoom(lent, lend(r)) {
		t.Errorf("rule 5: Restart of %s changes it: %s", told(r), told(lent))
	}
	if !apart(slices.Concat(stretches(lent), stretches(got))...) {
		t.Errorf("rule 5: Restart of %s: memory is shared", told(r))
	}
	if paperCheck(r) && !raft.Check(got) {
		t.Errorf("P14.4: Restart of %s: %s isn't right", told(r), told(got))
	}
	return got
}

func wantCheck(t testing.TB, what string, r api.Raft, want bool) {
	t.Helper()
	lent := lend(r)
	if got := raft.Check(lent); got != want {
		t.Errorf("P14.1: %s: Check(%s): %v, want %v", what, told(r), got, want)
	}
	if !sameRoom(lent, lend(r)) {
		t.Errorf("rule 5: Check changes %s to %s", told(r), told(lent))
	}
}

func wantNode(t testing.TB, what string, got, want api.Raft) {
	t.Helper()
	if !sameNode(got, want) {
		t.Errorf("%s:\n     %s,\nwant %s", what, told(got), told(want))
	}
}

func wantSent(t testing.TB, what string, got []api.Message, want ...api.Message) {
	t.Helper()
	if !sameMessages(got, want) {
		t.Errorf("%s: it sends\n     %s,\nwant %s", what, toldMessages(got), toldMessages(want))
	}
}
