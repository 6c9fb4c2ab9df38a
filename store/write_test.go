package store_test

import (
	"math"
	"slices"
	"strconv"
	"strings"
	"testing"

	"matins/api"
	"matins/raft"
)

// wantWritten writes a node to a store that has another one's things, and looks for these records behind those that were there.
func wantWritten(t *testing.T, what string, from, to api.Raft, recs ...string) {
	t.Helper()
	begin := paperWritten(fresh(from.Id, from.Conf), from)
	x := deskWith(t, from.Id, from.Conf, begin...)
	wantNode(t, "P15.1: "+what, x.kept, raft.Restart(from))
	wantErrno(t, "P15.2: "+what, x.write(to), api.OK)
	wantFiles(t, "P15.2: "+what+": want "+toldRecs(recs), x.d, files{"log-1": told(len(begin), slices.Concat(begin, recs)...)})
	for range 2 { // again: none
		x.write(to)
		wantFiles(t, "P15.2: "+what+", again", x.d, files{"log-1": told(len(begin), slices.Concat(begin, recs)...)})
	}
	x.sync()
	if x.crash(0, 0) {
		wantNode(t, "P15.3: "+what, x.kept, raft.Restart(to))
	}
	x.write(to)
	x.pack()
	if !x.crash(0, 0) {
		t.Errorf("P15.3: %s: what was packed doesn't fit", what)
	}
	wantNode(t, "P15.3: "+what, x.kept, raft.Restart(to))
}

// lettered is a list of entries: their terms, each with a letter for its Data.
func lettered(s string) []api.Entry {
	var list []api.Entry
	for _, word := range strings.Fields(s) {
		list = append(list, api.Entry{Term: int64(word[0] - '0'), Data: word[1:]})
	}
	return list
}

// log is a node, 1 of 1, 2, 3, of the term 9, with these entries behind a base.
func log(base, baseTerm int64, snap, list string) api.Raft {
	r := based(with(node(), 9, 1), base, baseTerm, snap)
	r.Trail.Entries = lettered(list)
	return r
}

func TestWriteOfNothing(t *testing.T) {
	wantWritten(t, "a new node", node(), node())
	for _, r := range []api.Raft{with(node(), 3, 0), with(node(), 0, 2), log(0, 0, "", "1a 2b"), log(7, 3, "s", "3a 9b"), log(0, 0, "s", ""), log(top, 0, "", ""), log(top, 9, "s", "")} {
		wantWritten(t, "what is kept", r, r)
	}
}

func TestWriteOfTermAndVote(t *testing.T) {
	r := log(4, 2, "s", "3a 5b")
	set := func(term int64, vote int) api.Raft {
		to := deepCopy(r)
		to.Term, to.Vote = term, vote
		return to
	}
	wantWritten(t, "Term alone", r, set(10, 1), "\x01\x0a\x01")
	wantWritten(t, "Vote alone", r, set(9, 3), "\x01\x09\x03")
	wantWritten(t, "no Vote", r, set(9, 0), "\x01\x09\x00")
	wantWritten(t, "Term and Vote", r, set(300, 2), "\x01\xac\x02\x02")
	wantWritten(t, "the last Term", r, set(top, 0), recVote(top, 0))
	wantWritten(t, "a Term that falls, to the log's", r, set(5, 1), "\x01\x05\x01")
	wantWritten(t, "a Term of a new node", node(), with(node(), 1, 0), "\x01\x01\x00")
	wantWritten(t, "a Vote of a new node", node(), with(node(), 0, 3), "\x01\x00\x03")
	wantWritten(t, "back to nothing", with(node(), 5, 1), node(), "\x01\x00\x00")
	far := fresh(7, []int{7, math.MaxInt})
	wantWritten(t, "a Vote of many bytes", far, with(far, 1, math.MaxInt), nums(1, 1, math.MaxInt64))
}

func TestWriteOfBases(t *testing.T) {
	r := log(4, 2, "s", "3a 3b 5c")
	rest := []string{"\x02\x05\x03\x01a", "\x02\x06\x03\x01b", "\x02\x07\x05\x01c"}
	wantWritten(t, "Snap alone", r, log(4, 2, "u", "3a 3b 5c"), "\x03\x04\x02\x01u")
	wantWritten(t, "no Snap", r, log(4, 2, "", "3a 3b 5c"), "\x03\x04\x02\x00")
	wantWritten(t, "BaseTerm alone", r, log(4, 1, "s", "3a 3b 5c"), append([]string{"\x03\x04\x01\x01s"}, rest...)...)
	wantWritten(t, "BaseTerm alone, higher", r, log(4, 3, "s", "3a 3b 5c"), append([]string{"\x03\x04\x03\x01s"}, rest...)...)
	wantWritten(t, "BaseTerm 0", r, log(4, 0, "s", "3a 3b 5c"), append([]string{"\x03\x04\x00\x01s"}, rest...)...)
	wantWritten(t, "Base alone", r, log(3, 2, "s", "3a 3b 5c"), "\x03\x03\x02\x01s", "\x02\x04\x03\x01a", "\x02\x05\x03\x01b", "\x02\x06\x05\x01c")
	wantWritten(t, "a Base far off", r, log(top, 2, "s", ""), recBase(top, 2, "s"))
	wantWritten(t, "no Base", r, log(0, 0, "s", "3a 3b 5c"), "\x03\x00\x00\x01s", "\x02\x01\x03\x01a", "\x02\x02\x03\x01b", "\x02\x03\x05\x01c")
	wantWritten(t, "no Base, no Snap, no entries", r, log(0, 0, "", ""), "\x03\x00\x00\x00")
	wantWritten(t, "a Snap without a Base", log(0, 0, "", "3a 3b 5c"), log(0, 0, "s", "3a 3b 5c"), "\x03\x00\x00\x01s")
	wantWritten(t, "a Snap without a Base, of a new node", node(), based(node(), 0, 0, "s"), "\x03\x00\x00\x01s")
	wantWritten(t, "a Base of the term 0, of a new node", node(), based(node(), 5, 0, ""), "\x03\x05\x00\x00")
	wantWritten(t, "a Base with a Term", with(node(), 1, 0), log(5, 1, "s", ""), "\x01\x09\x01", "\x03\x05\x01\x01s")
}

// A log that is cut keeps what it has behind its base: that isn't written again.
func TestWriteOfCutLogs(t *testing.T) {
	r := log(4, 2, "s", "3a 3b 5c 9d")
	wantWritten(t, "cut by one", r, log(5, 3, "s", "3b 5c 9d"), "\x03\x05\x03\x01s")
	wantWritten(t, "cut by two", r, log(6, 3, "u", "5c 9d"), "\x03\x06\x03\x01u")
	wantWritten(t, "cut by three", r, log(7, 5, "", "9d"), "\x03\x07\x05\x00")
	wantWritten(t, "cut by all", r, log(8, 9, "u", ""), "\x03\x08\x09\x01u")
	wantWritten(t, "cut past all", r, log(9, 9, "u", ""), "\x03\x09\x09\x01u")
	wantWritten(t, "cut, and one more", r, log(6, 3, "u", "5c 9d 9e"), "\x03\x06\x03\x01u", "\x02\x09\x09\x01e")
	wantWritten(t, "cut by all, and one more", r, log(8, 9, "u", "9e"), "\x03\x08\x09\x01u", "\x02\x09\x09\x01e")
	wantWritten(t, "cut past all, and one more", r, log(9, 9, "u", "9e"), "\x03\x09\x09\x01u", "\x02\x0a\x09\x01e")
	wantWritten(t, "cut, and one fewer", r, log(6, 3, "u", "5c"), "\x03\x06\x03\x01u", "\x04\x07")
	wantWritten(t, "cut, and none", r, log(6, 3, "u", ""), "\x03\x06\x03\x01u", "\x04\x06")
	wantWritten(t, "cut, and another one", r, log(6, 3, "u", "5c 9x"), "\x03\x06\x03\x01u", "\x02\x08\x09\x01x")
	wantWritten(t, "cut, and others", r, log(6, 3, "u", "6x"), "\x03\x06\x03\x01u", "\x02\x07\x06\x01x")
	wantWritten(t, "cut at another term", r, log(6, 4, "u", "5c 9d"), "\x03\x06\x04\x01u", "\x02\x07\x05\x01c", "\x02\x08\x09\x01d")
	wantWritten(t, "cut at another term, and none", r, log(6, 2, "u", ""), "\x03\x06\x02\x01u")
	wantWritten(t, "a base ahead", r, log(3, 2, "u", "2z 3a 3b 5c 9d"), "\x03\x03\x02\x01u", "\x02\x04\x02\x01z", "\x02\x05\x03\x01a", "\x02\x06\x03\x01b", "\x02\x07\x05\x01c", "\x02\x08\x09\x01d")
	wantWritten(t, "Snap, and one fewer", r, log(4, 2, "u", "3a 3b 5c"), "\x03\x04\x02\x01u", "\x04\x07")
	wantWritten(t, "Snap, and one more", r, log(4, 2, "u", "3a 3b 5c 9d 9e"), "\x03\x04\x02\x01u", "\x02\x09\x09\x01e")
	to := log(6, 3, "u", "5c 9x")
	to.Term, to.Vote = 10, 0
	wantWritten(t, "all of it", r, to, "\x01\x0a\x00", "\x03\x06\x03\x01u", "\x02\x08\x09\x01x")
}

func TestWriteOfEntries(t *testing.T) {
	full := lettered("1a 3b 3c 5d 9e")
	for _, base := range []int64{0, 1, 126, 127, 1 << 20, top - 8} {
		baseTerm := min(base, 1)
		at := func(list []api.Entry) api.Raft {
			r := log(base, baseTerm, "s", "")
			r.Trail.Entries = list
			return r
		}
		for n := range len(full) + 1 {
			more, same := []string(nil), slices.Clone(full[:n])
			for i, e := range full[n:] {
				more = append(more, recEntry(base+int64(n+i+1), e.Term, e.Data))
			}
			wantWritten(t, "entries more", at(same), at(full), more...)
			if n < len(full) {
				wantWritten(t, "entries fewer", at(full), at(same), recEnd(base+int64(n)))
				otherFrom(t, at, full, base, n)
			}
		}
	}
}

// otherFrom writes entries that are others from a place on: by Data, by Term, by both; as many, fewer and more.
func otherFrom(t *testing.T, at func([]api.Entry) api.Raft, full []api.Entry, base int64, n int) {
	t.Helper()
	data, term := slices.Clone(full), slices.Clone(full)
	data[n].Data = "x"
	for i := n; i < len(term); i++ {
		term[i].Term = max(term[i].Term, 4) + 1
	}
	term[len(term)-1].Term = 9
	if n == len(full)-1 {
		term[n].Term = 8
	}
	for _, list := range [][]api.Entry{data, term, data[:n+1], term[:n+1], append(slices.Clone(data), api.Entry{Term: 9}), append(slices.Clone(term), api.Entry{Term: 9})} {
		var recs []string
		for i, e := range list[n:] {
			recs = append(recs, recEntry(base+int64(n+i+1), e.Term, e.Data))
		}
		wantWritten(t, "others from the place "+strconv.Itoa(n), at(full), at(list), recs...)
	}
}

// From the first one that differs all are written, though those behind it were the same.
func TestWriteOfOneInTheMidst(t *testing.T) {
	r := log(0, 0, "", "1a 3b 3c 5d")
	wantWritten(t, "one in the midst", r, log(0, 0, "", "1a 3x 3c 5d"), "\x02\x02\x03\x01x", "\x02\x03\x03\x01c", "\x02\x04\x05\x01d")
	wantWritten(t, "the first one", r, log(0, 0, "", "1x 3b"), "\x02\x01\x01\x01x", "\x02\x02\x03\x01b")
	wantWritten(t, "one left out", r, log(0, 0, "", "1a 3c 5d"), "\x02\x02\x03\x01c", "\x02\x03\x05\x01d")
	wantWritten(t, "one put between", r, log(0, 0, "", "1a 2x 3b 3c 5d"), "\x02\x02\x02\x01x", "\x02\x03\x03\x01b", "\x02\x04\x03\x01c", "\x02\x05\x05\x01d")
	wantWritten(t, "empty Data", r, log(0, 0, "", "1a 3b 3 5d"), "\x02\x03\x03\x00", "\x02\x04\x05\x01d")
}

func TestWriteOfLongThings(t *testing.T) {
	snap, data := strings.Repeat("s", api.MaxSnap), strings.Repeat("d", api.MaxData)
	to := based(with(node(), top, 1), 5, 4, snap)
	to.Trail.Entries = []api.Entry{{Term: 4, Data: data}, {Term: top, Data: ""}, {Term: top, Data: data}}
	wantWritten(t, "long things", node(), to, recVote(top, 1), recBase(5, 4, snap), recEntry(6, 4, data), recEntry(7, top, ""), recEntry(8, top, data))
	far := based(with(node(), top, 1), top-2, top, "")
	far.Trail.Entries = entries(top, top)
	wantWritten(t, "far numbers", node(), far, recVote(top, 1), recBase(top-2, top, ""), recEntry(top-1, top, ""), recEntry(top, top, ""))
	many := with(node(), 3, 1, slices.Repeat([]int64{2}, api.MaxLog)...)
	wantWritten(t, "MaxLog entries", node(), many, append([]string{recVote(3, 1)}, recEntries(1, slices.Repeat([]int64{2}, api.MaxLog)...)...)...)
	wantWritten(t, "MaxLog entries fewer", many, with(node(), 3, 1), recEnd(0))
	other := deepCopy(many)
	other.Trail.Entries[api.MaxLog-1].Data = "x"
	wantWritten(t, "the last of MaxLog entries", many, other, recEntry(api.MaxLog, 2, "x"))
	tail := based(with(node(), 3, 1), 1, 2, "s", slices.Repeat([]int64{2}, api.MaxLog)...)
	wantWritten(t, "MaxLog entries, cut, and one more", many, tail, recBase(1, 2, "s"), recEntry(api.MaxLog+1, 2, ""))
}

// roles are right nodes with the same kept things, in each Role, and with other things that aren't kept.
func roles() []api.Raft {
	r := log(4, 2, "s", "3a 5b 9c")
	set := func(change func(r *api.Raft)) api.Raft {
		c := deepCopy(r)
		change(&c)
		return c
	}
	return []api.Raft{
		r,
		set(func(r *api.Raft) { r.Leader, r.Commit, r.Left, r.Wait = 3, 6, 0, 19 }),
		set(func(r *api.Raft) { r.Leader, r.Commit, r.Left = 1, 7, 100 }),
		set(func(r *api.Raft) { r.Role, r.Votes, r.Commit = api.Candidate, []int{1}, 5 }),
		set(func(r *api.Raft) {
			r.Role, r.Leader, r.Next, r.Match = api.Leader, 1, []int64{8, 8, 3}, []int64{7, 0, 2}
		}),
	}
}

// What isn't kept is not written, and doesn't come back.
func TestWriteOfEachRole(t *testing.T) {
	for _, from := range roles() {
		for _, to := range roles() {
			wantWritten(t, "another Role", from, to)
		}
		begin := paperWritten(node(), from)
		wantWritten(t, "each Role", node(), from, begin...)
		if want := []string{"\x01\x09\x01", "\x03\x04\x02\x01s", "\x02\x05\x03\x01a", "\x02\x06\x05\x01b", "\x02\x07\x09\x01c"}; !slices.Equal(begin, want) {
			t.Errorf("the paper: %s", toldRecs(begin))
		}
	}
}

// wrongOnes are nodes that aren't right, or of another Id or Conf; all of them differ from what is kept in more than that.
func wrongOnes() []api.Raft {
	var all []api.Raft
	set := func(change func(r *api.Raft)) {
		for _, r := range roles() {
			c := deepCopy(r)
			c.Trail.Entries = append(c.Trail.Entries, api.Entry{Term: 9, Data: "new"})
			change(&c)
			all = append(all, c)
		}
	}
	for _, id := range []int{0, -1, 2, 3, 4, math.MinInt, math.MaxInt} {
		set(func(r *api.Raft) { r.Id = id })
	}
	for _, conf := range [][]int{nil, {1}, {1, 2}, {1, 3}, {2, 3}, {1, 2, 4}, {1, 2, 3, 4}, {1, 2, 3, 4, 5, 6, 7}, {1, 3, 2}, {0, 1, 2, 3}, {1, 1, 2, 3}, {1, 2, 3, 4, 5, 6, 7, 8}} {
		set(func(r *api.Raft) { r.Conf = conf })
	}
	for _, n := range []int64{-1, top + 1, math.MinInt64, math.MaxInt64} {
		set(func(r *api.Raft) { r.Term = n })
		set(func(r *api.Raft) { r.Vote = int(n) })
		set(func(r *api.Raft) { r.Role = int(n) })
		set(func(r *api.Raft) { r.Leader = int(n) })
		set(func(r *api.Raft) { r.Trail.Base = n })
		set(func(r *api.Raft) { r.Trail.BaseTerm = n })
		set(func(r *api.Raft) { r.Trail.Entries[0].Term = n })
		set(func(r *api.Raft) { r.Commit = n })
		set(func(r *api.Raft) { r.Left = int(n) })
		set(func(r *api.Raft) { r.Wait = int(n) })
		set(func(r *api.Raft) { r.Votes = append(r.Votes, int(n)) })
		set(func(r *api.Raft) { r.Next = append(r.Next, n) })
		set(func(r *api.Raft) { r.Match = append(r.Match, n) })
	}
	set(func(r *api.Raft) { r.Term = 8 }) // the log has the term 9
	set(func(r *api.Raft) { r.Vote = 4 })
	set(func(r *api.Raft) { r.Trail.Entries[1].Term = 2 })
	set(func(r *api.Raft) { r.Trail.Entries[0].Term = 0 })
	set(func(r *api.Raft) { r.Trail.Base = 0 })
	set(func(r *api.Raft) { r.Trail.Entries[0].Data = strings.Repeat("d", api.MaxData+1) })
	set(func(r *api.Raft) {
		r.Trail.Entries = append(r.Trail.Entries, entries(slices.Repeat([]int64{9}, api.MaxLog)...)...)
	})
	set(func(r *api.Raft) { r.Snap = strings.Repeat("s", api.MaxSnap+1) })
	set(func(r *api.Raft) { r.Commit = 3 })
	set(func(r *api.Raft) { r.Left, r.Wait = 101, 9 })
	return append(all, api.Raft{}, api.Raft{Id: 1, Conf: three}, fresh(2, three), fresh(1, []int{1, 2}), fresh(1, []int{1, 2, 3, 4}))
}

func TestWriteOfWrongNodes(t *testing.T) {
	x := deskOf(t)
	for _, wrong := range wrongOnes() { // nothing was written yet
		wantErrno(t, "P15.2: Write of "+toldNode(wrong), x.write(wrong), api.ErrState)
	}
	x.write(roles()[0])
	for i, wrong := range wrongOnes() {
		wantErrno(t, "P15.2: Write of "+toldNode(wrong), x.write(wrong), api.ErrState)
		switch i % 40 {
		case 10:
			x.sync()
		case 20:
			x.pack()
		case 30:
			x.write(with(node(), int64(10+i), 1, 3)) // goes on from what was kept, whatever was refused
		case 35:
			x.write(roles()[0])
		}
	}
	x.sync()
	x.crash(0, 0)
}

// Nodes of other groups: the Id and the Conf are those that the store was opened with.
func TestWriteToOtherGroups(t *testing.T) {
	groups := []api.Raft{fresh(1, []int{1}), fresh(1, []int{1, 2}), fresh(2, []int{1, 2}), fresh(2, []int{2}), fresh(1, three), fresh(3, three), fresh(3, []int{3, 4, 5}), fresh(1, []int{1, 2, 3, 4, 5, 6, 7})}
	for i, g := range groups {
		x := newDesk(t, g.Id, g.Conf, nil)
		for j, other := range groups {
			want := api.ErrState
			if i == j {
				want = api.OK
			}
			wantErrno(t, "P15.2: Write to another group", x.write(with(other, 5, 0, 4)), want)
		}
		x.sync()
		x.crash(0, 0)
	}
}

// A Term that falls below what the log has is written as the chapter says. Its record doesn't fit, so that the log can't be opened; one that was packed behind it can.
func TestWriteOfATermBelowTheLogs(t *testing.T) {
	x := deskOf(t)
	x.write(log(0, 0, "", "3a 5b"))
	low := with(node(), 2, 0, 1)
	wantErrno(t, "P15.2: a Term that falls", x.write(low), api.OK)
	wantFiles(t, "P15.2: a Term that falls", x.d, files{"log-1": told(0, "\x01\x09\x01", "\x02\x01\x03\x01a", "\x02\x02\x05\x01b", "\x01\x02\x00", "\x02\x01\x01\x00")})
	refuseOpen(t, "a Term that falls", x.d, 1, three, api.ErrBytes)
	x.pack()
	if !x.crash(0, 0) {
		t.Errorf("P15.3: what was packed doesn't fit")
	}
	wantNode(t, "P15.3: a Term that falls, packed", x.kept, low)
}
