package group_test

import (
	"fmt"
	"hash/crc32"
	"math"
	"strings"
	"testing"

	"matins/api"
)

func sumOf(data ...string) uint32 { return crc32.ChecksumIEEE([]byte(strings.Join(data, ""))) }

// A node alone stands and leads in one step: two records, its Term and its entry.
func TestFailWhereItLeads(t *testing.T) {
	keeps := []int{math.MinInt, -1, 0, 1, 2, 3, math.MaxInt}
	torns := []int{math.MinInt, -1, 0, 1, 2, 3, 4, 5, 6, 7, 8, 9, 10, math.MaxInt}
	whole := len("\x03\x01\x01\x01....") // of the first record's frame; the second one has a byte more
	for _, keep := range keeps {
		for _, torn := range torns {
			x := newDesk(t, 1)
			x.tick(1, 9)
			x.ok(api.Act{Kind: api.ActTick, Node: 1, Fail: true, Keep: keep, Torn: torn})
			x.wantView(1, api.View{})
			x.wantLeaders()
			x.wantAgreed()
			x.restart(1)
			kept := max(keep, 0)
			if kept == 0 && torn >= whole || kept == 1 && torn >= whole+1 {
				kept++
			}
			if kept == 0 {
				x.wantView(1, api.View{Up: true})
			} else {
				x.wantView(1, api.View{Up: true, Term: 1, Vote: 1})
			}
			x.tick(1, 10)
			x.wantAgreed([][]api.Entry{{entry(1, "")}, {entry(2, "")}, {entry(1, ""), entry(2, "")}}[min(kept, 2)]...)
			if t.Failed() {
				t.Fatalf("Keep %d, Torn %d", keep, torn)
			}
		}
	}
}

// What a leader would have sent, and agreed on, isn't where its step fails; another one's entry stands there then.
func TestFailOfALeader(t *testing.T) {
	for keep := -1; keep <= 2; keep++ {
		for torn := -1; torn <= 14; torn++ {
			x := newDesk(t, 1, 2, 3)
			x.tick(1, 10)
			x.deliver()
			x.tick(1, 2)
			x.deliver()
			x.ok(api.Act{Kind: api.ActPropose, Node: 1, Data: "lost", Fail: true, Keep: keep, Torn: torn})
			if len(x.was.flight) != 0 {
				t.Fatalf("P22.1: sent: %+v", x.was.flight)
			}
			x.wantView(1, api.View{})
			x.restart(1)
			x.wantView(1, api.View{Up: true, Term: 1, Vote: 1})
			x.tick(2, 20)
			x.deliver()
			x.propose(2, "kept")
			x.deliver()
			x.tick(2, 4)
			x.deliver()
			x.wantLeaders(led(1, 1), led(2, x.view(2).Term))
			last := x.was.agreed[len(x.was.agreed)-1]
			if keep > 0 || torn > 13 { // node 1 has it still, and doesn't vote for who hasn't
				continue
			}
			if last.Data != "kept" || x.view(1).Sum != sumOf("kept") {
				t.Errorf("P22.1: Keep %d, Torn %d: %s", keep, torn, x.was.told())
			}
		}
	}
}

// A vote that was written, but not synced, may be gone: none was sent.
func TestFailOfAVote(t *testing.T) {
	for keep := range 3 {
		for torn := range 10 {
			x := newDesk(t, 1, 2, 3)
			x.tick(2, 10)
			x.ok(api.Act{Kind: api.ActDeliver, Id: 1, Fail: true, Keep: keep, Torn: torn})
			if len(x.was.flight) != 1 {
				t.Fatalf("P22.1: sent: %+v", x.was.flight)
			}
			x.restart(1)
			if keep > 0 || torn >= 8 {
				x.wantView(1, api.View{Up: true, Term: 1, Vote: 2})
			} else {
				x.wantView(1, api.View{Up: true})
			}
			x.drop()
			x.tick(3, 10)
			x.deliver()
			want := led(3, 1) // by its own vote and that of node 1
			if keep > 0 || torn >= 8 {
				x.wantLeaders()
				continue
			}
			x.wantLeaders(want)
		}
	}
}

func TestFailOfAPush(t *testing.T) {
	for keep := range 4 {
		for torn := range 12 {
			x := newDesk(t, 1, 2)
			x.tick(1, 10)
			x.deliver()
			for _, data := range []string{"a", "b", "c"} {
				x.propose(1, data)
			}
			for len(x.was.flight) > 1 { // the last one has all three
				x.ok(api.Act{Kind: api.ActDrop, Id: x.was.flight[0].Id})
			}
			x.ok(api.Act{Kind: api.ActDeliver, Id: x.was.flight[0].Id, Fail: true, Keep: keep, Torn: torn})
			x.wantView(2, api.View{})
			x.wantAgreed(entry(1, ""))
			x.restart(2)
			x.wantView(2, api.View{Up: true, Term: 1, Vote: 1})
			x.tick(1, 2)
			x.deliver()
			x.tick(1, 2)
			x.deliver()
			x.wantAgreed(entry(1, ""), entry(1, "a"), entry(1, "b"), entry(1, "c"))
			x.wantView(2, api.View{Up: true, Term: 1, Vote: 1, Commit: 4, Count: 3, Sum: sumOf("abc")})
		}
	}
}

// A tick that changes nothing that is kept fails too.
func TestFailOfNothing(t *testing.T) {
	x := newDesk(t, 1, 2)
	x.ok(api.Act{Kind: api.ActTick, Node: 1, Fail: true, Keep: 5, Torn: 5})
	x.wantView(1, api.View{})
	x.want(api.Act{Kind: api.ActTick, Node: 1}, api.ErrState)
	x.restart(1)
	x.tick(1, 9) // its waiting begins anew
	x.wantView(1, api.View{Up: true})
	x.tick(1, 1)
	x.wantView(1, api.View{Up: true, Role: api.Candidate, Term: 1, Vote: 1})
}

func TestCrash(t *testing.T) {
	for _, keep := range ends {
		for _, torn := range []int{math.MinInt, 0, 1, 5, math.MaxInt} {
			x := newDesk(t, 1, 2)
			x.tick(1, 10)
			x.deliver()
			x.propose(1, "a")
			x.crash(1, keep, torn) // all is synced
			x.crash(2, torn, keep)
			x.wantView(1, api.View{})
			x.wantView(2, api.View{})
			x.ok(api.Act{Kind: api.ActDeliver, Id: x.was.flight[0].Id})
			x.restart(1)
			x.restart(2)
			x.wantView(1, api.View{Up: true, Term: 1, Vote: 1})
			x.wantView(2, api.View{Up: true, Term: 1, Vote: 1})
			x.tick(1, 10)
			x.deliver()
			x.wantAgreed(entry(1, ""), entry(1, "a"), entry(2, ""))
		}
	}
}

// Count and Sum are of what is agreed on, and of Data alone.
func TestCountAndSum(t *testing.T) {
	x := newDesk(t, 1, 2, 3)
	x.tick(1, 10)
	x.deliver()
	for i, data := range []string{"a", "\x00", strings.Repeat("long ", 500), "\xff\xfe"} {
		x.propose(1, data)
		x.wantView(1, api.View{Up: true, Role: api.Leader, Term: 1, Vote: 1, Commit: int64(i + 1), Count: x.view(1).Count, Sum: x.view(1).Sum})
		x.deliver()
		if v := x.view(1); v.Commit != int64(i+2) || v.Count != int64(i+1) {
			t.Errorf("P22.1: %+v", v)
		}
	}
	all := sumOf("a", "\x00", strings.Repeat("long ", 500), "\xff\xfe")
	if v := x.view(1); v.Sum != all {
		t.Errorf("P22.1: %+v, want the Sum %d", v, all)
	}
	if v := x.view(2); v.Commit != 4 || v.Count != 3 || v.Sum != sumOf("a", "\x00", strings.Repeat("long ", 500)) {
		t.Errorf("P22.1: %+v", v) // the last one it knows of, but not that it is agreed on
	}
	x.crash(1, 0, 0)
	x.tick(3, 30)
	x.deliver()
	x.tick(3, 2)
	x.deliver()
	if v := x.view(3); v.Commit != 6 || v.Count != 4 || v.Sum != all { // one more without Data
		t.Errorf("P22.1: %+v", v)
	}
	x.wantLeaders(led(1, 1), led(3, x.view(3).Term))
}

func TestPackAndRestart(t *testing.T) {
	x := newDesk(t, 1)
	x.pack(1) // of nothing
	x.wantView(1, api.View{Up: true})
	x.crash(1, 0, 0)
	x.restart(1)
	x.wantView(1, api.View{Up: true})
	x.tick(1, 10)
	x.propose(1, "a")
	x.propose(1, "b")
	x.pack(1)
	x.wantView(1, api.View{Up: true, Role: api.Leader, Term: 1, Vote: 1, Commit: 3, Base: 3, Count: 2, Sum: sumOf("ab")})
	x.pack(1) // once more: nothing is left to pack
	x.propose(1, "c")
	x.wantView(1, api.View{Up: true, Role: api.Leader, Term: 1, Vote: 1, Commit: 4, Base: 3, Count: 3, Sum: sumOf("abc")})
	x.crash(1, 0, 0)
	x.restart(1)
	x.wantView(1, api.View{Up: true, Term: 1, Vote: 1, Commit: 3, Base: 3, Count: 2, Sum: sumOf("ab")})
	x.pack(1) // up to its Commit alone
	x.wantView(1, api.View{Up: true, Term: 1, Vote: 1, Commit: 3, Base: 3, Count: 2, Sum: sumOf("ab")})
	x.crash(1, 0, 0)
	x.restart(1)
	x.tick(1, 10)
	x.wantView(1, api.View{Up: true, Role: api.Leader, Term: 2, Vote: 1, Commit: 5, Base: 3, Count: 3, Sum: sumOf("abc")})
	x.wantAgreed(entry(1, ""), entry(1, "a"), entry(1, "b"), entry(1, "c"), entry(2, ""))
	x.wantLeaders(led(1, 1), led(1, 2))
}

// A node that was away is sent a Bundle, and has Count and Sum of its Snap then; whether it had the beginning, all, or others of the entries.
func TestBundle(t *testing.T) {
	for had := range 3 {
		x := newDesk(t, 1, 2, 3)
		x.tick(1, 10)
		x.deliver()
		x.tick(1, 2)
		x.deliver()
		x.ok(api.Act{Kind: api.ActCut, Node: 1, Other: 3})
		if had == 1 { // node 3 has entries that aren't known to be agreed on
			x.ok(api.Act{Kind: api.ActJoin, Node: 1, Other: 3})
		}
		for i := range 12 {
			x.propose(1, fmt.Sprint(i))
			for _, p := range x.was.flight {
				if had == 1 && p.To == 3 && i < 9 {
					x.ok(api.Act{Kind: api.ActDeliver, Id: p.Id, Fail: had == 1 && i == 8, Keep: 1})
				}
			}
			x.ok(api.Act{Kind: api.ActCut, Node: 1, Other: 3})
			for _, p := range x.was.flight {
				if p.To != 3 && p.From != 3 {
					x.ok(api.Act{Kind: api.ActDeliver, Id: p.Id})
				}
			}
			for _, p := range x.was.flight {
				if p.To == 1 && p.From == 2 {
					x.ok(api.Act{Kind: api.ActDeliver, Id: p.Id})
				}
			}
			if had == 1 && i < 9 {
				x.ok(api.Act{Kind: api.ActJoin, Node: 1, Other: 3})
			}
		}
		x.drop()
		x.pack(1)
		x.propose(1, "behind")
		x.drop()
		x.ok(api.Act{Kind: api.ActJoin, Node: 1, Other: 3})
		if had != 1 {
			x.crash(3, 0, 0)
		}
		x.restart(3)
		if had == 2 {
			x.ok(api.Act{Kind: api.ActTick, Node: 1, Draw: 0})
		}
		x.tick(1, 2)
		x.deliver()
		x.tick(1, 2)
		x.deliver()
		v := x.view(3)
		want := sumOf("01234567891011behind")
		if v.Base != 13 || v.Commit != 14 || v.Count != 13 || v.Sum != want || x.was.broken {
			t.Errorf("P22.1: had %d: %+v, want the Sum %d", had, v, want)
		}
		x.crash(3, 0, 0)
		x.restart(3)
		if v := x.view(3); v.Base != 13 || v.Commit != 13 || v.Count != 12 || v.Sum != sumOf("01234567891011") {
			t.Errorf("P22.4: had %d: %+v", had, v)
		}
	}
}

// No leader is noted twice, and a term that another node leads is noted beside it.
func TestLeaders(t *testing.T) {
	x := newDesk(t, 2, 5)
	for round := range 6 {
		id := []int{2, 5}[round%2]
		for x.view(id).Role != api.Leader {
			x.tick(id, 1)
			x.deliver()
		}
		x.tick(id, 6)
		x.deliver()
		x.propose(id, "x")
		x.deliver()
		if l := x.was.leaders; len(l) != round+1 || l[round] != led(id, x.view(id).Term) {
			t.Errorf("P22.1: %d", l)
		}
		x.crash(id, 0, 0)
		x.restart(id)
	}
}
