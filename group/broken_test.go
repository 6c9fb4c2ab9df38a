package group_test

import (
	"slices"
	"testing"

	"matins/api"
)

// What no group does by the rules of its nodes: messages that none of them sent break it.

// pushed has node 2 or 3 hold for agreed on what a message says.
func (x *desk) pushed(to int, term, index, logTerm, commit int64, list ...api.Entry) {
	x.t.Helper()
	x.hand(api.Message{Kind: api.Push, From: 1, To: to, Term: term, Index: index, LogTerm: logTerm, Commit: commit, Entries: list}, api.OK)
}

func (x *desk) wantBroken(want bool) {
	x.t.Helper()
	if x.was.broken != want {
		x.t.Errorf("P22.1: act %d: Broken %t, want %t: %s", x.acts, x.was.broken, want, x.was.told())
	}
}

// agreedOn is a group of three in which node 2 holds entries for agreed on.
func agreedOn(t *testing.T, list ...api.Entry) *desk {
	t.Helper()
	x := newDesk(t, 1, 2, 3)
	x.pushed(2, 9, 0, 0, int64(len(list)), list...)
	x.wantAgreed(list...)
	x.wantBroken(false)
	return x
}

func TestBrokenByAnEntry(t *testing.T) {
	list := []api.Entry{entry(1, ""), entry(1, "a"), entry(2, "b")}
	for n := range list {
		for _, other := range []api.Entry{entry(list[n].Term+1, list[n].Data), entry(list[n].Term, list[n].Data+"x"), entry(9, "y")} {
			x := agreedOn(t, list...)
			others := slices.Clone(list[:n+1])
			others[n] = other
			x.pushed(3, 9, 0, 0, int64(n), others...)
			x.wantBroken(false) // node 3 has it, but doesn't hold it for agreed on
			x.pushed(3, 9, int64(n+1), other.Term, int64(n+1))
			x.wantBroken(true)
			x.wantAgreed(list...)
			for _, id := range x.conf {
				x.crash(id, 0, 0)
				x.restart(id)
			}
			x.tick(1, 30)
			x.deliver()
			x.wantBroken(true) // it stays so
		}
	}
	x := agreedOn(t, list...)
	x.pushed(3, 9, 0, 0, 3, list...)
	x.wantBroken(false)
	x.pushed(3, 9, 3, 2, 4, entry(3, "c"))
	x.pushed(2, 9, 3, 2, 4, entry(3, "d"))
	x.wantBroken(true)
	x.wantAgreed(append(list, entry(3, "c"))...)
}

// Entries that are the same by their Sum alone aren't the same.
func TestBrokenThoughTheSumIsTheSame(t *testing.T) {
	x := agreedOn(t, entry(1, "a"), entry(1, "bc"))
	x.pushed(3, 9, 0, 0, 2, entry(1, "ab"), entry(1, "c"))
	if a, b := x.view(2), x.view(3); a.Sum != b.Sum || a.Count != b.Count {
		t.Errorf("P22.1: %+v, %+v", a, b)
	}
	x.wantBroken(true)
}

func TestBrokenByASnap(t *testing.T) {
	list := []api.Entry{entry(1, ""), entry(1, "a"), entry(2, "b"), entry(2, "")}
	for index := int64(1); index <= 6; index++ {
		for upTo := range len(list) + 1 {
			for _, more := range []total{{}, {1, 0}, {-1, 0}, {0, 1}} {
				x := agreedOn(t, list...)
				count, sum := comeTo(list[:upTo])
				x.hand(api.Message{Kind: api.Bundle, From: 1, To: 3, Term: 9, Index: index, LogTerm: 2, Data: snapOf(max(count+more.count, 0), sum+more.sum)}, api.OK)
				if index > int64(len(list)) { // numbers were left out
					x.wantBroken(true)
					continue
				}
				wantCount, wantSum := comeTo(list[:index])
				v := x.view(3)
				x.wantBroken(v.Count != wantCount || v.Sum != wantSum)
				x.wantView(3, api.View{Up: true, Term: 9, Commit: index, Base: index, Count: v.Count, Sum: v.Sum})
				if v.Count != max(count+more.count, 0) || v.Sum != sum+more.sum {
					t.Errorf("P22.1: %+v, want what the Snap says", v)
				}
			}
		}
	}
}

type total struct {
	count int64
	sum   uint32
}

// A Bundle is held against the list ahead of what its node agrees on behind it.
func TestBrokenBehindABundle(t *testing.T) {
	list := []api.Entry{entry(1, ""), entry(1, "a"), entry(2, "b"), entry(2, "")}
	bundled := func() *desk {
		x := agreedOn(t, list...)
		count, sum := comeTo(list[:2])
		x.hand(api.Message{Kind: api.Bundle, From: 1, To: 3, Term: 9, Index: 2, LogTerm: 1, Data: snapOf(count, sum)}, api.OK)
		x.wantBroken(false)
		return x
	}
	x := bundled()
	x.pushed(3, 9, 2, 1, 4, list[2:]...)
	x.wantBroken(false)
	count, sum := comeTo(list)
	x.wantView(3, api.View{Up: true, Term: 9, Commit: 4, Base: 2, Count: count, Sum: sum})
	x.pack(3)
	x.wantView(3, api.View{Up: true, Term: 9, Commit: 4, Base: 4, Count: count, Sum: sum})
	x.pushed(3, 9, 4, 2, 5, entry(9, "more"))
	x.wantAgreed(append(slices.Clone(list), entry(9, "more"))...)
	x.wantBroken(false)
	x = bundled()
	x.pushed(3, 9, 2, 1, 3, entry(2, "other"))
	x.wantBroken(true)
}

// A restart with a Snap holds it against the list once more; it was held there already.
func TestBrokenStaysBehindARestart(t *testing.T) {
	x := newDesk(t, 1, 2, 3)
	x.hand(api.Message{Kind: api.Bundle, From: 1, To: 3, Term: 9, Index: 2, LogTerm: 1, Data: snapOf(7, 8)}, api.OK)
	x.wantBroken(true)
	x.wantView(3, api.View{Up: true, Term: 9, Commit: 2, Base: 2, Count: 7, Sum: 8})
	x.crash(3, 0, 0)
	x.restart(3)
	x.wantView(3, api.View{Up: true, Term: 9, Commit: 2, Base: 2, Count: 7, Sum: 8})
	x.wantAgreed()
}

// What a step has that failed isn't held against the list; behind the restart it is.
func TestBrokenBehindAStepThatFailed(t *testing.T) {
	x := agreedOn(t, entry(1, "a"))
	bundle := api.Message{Kind: api.Bundle, From: 1, To: 3, Term: 9, Index: 1, LogTerm: 1, Data: snapOf(2, 2)}
	x.ok(api.Act{Kind: api.ActDeliver, Id: x.post(1, 3, wire(t, bundle)), Fail: true, Keep: 9})
	x.wantBroken(false)
	x.restart(3)
	x.wantView(3, api.View{Up: true, Term: 9, Commit: 1, Base: 1, Count: 2, Sum: 2})
	x.wantBroken(true)
	x = agreedOn(t, entry(1, "a"))
	x.ok(api.Act{Kind: api.ActDeliver, Id: x.post(1, 3, wire(t, bundle)), Fail: true})
	x.restart(3)
	x.wantView(3, api.View{Up: true})
	x.wantBroken(false)
}

// A Bundle is known by its number, whatever terms say the same.
func TestBundleOfATermThatIsANumber(t *testing.T) {
	for base := int64(1); base <= 6; base++ {
		for term := int64(1); term <= 6; term++ {
			for more := int64(1); more <= 6; more++ {
				x := newDesk(t, 1, 2, 3)
				send := func(index int64, data string) {
					t.Helper()
					x.hand(api.Message{Kind: api.Bundle, From: 1, To: 3, Term: 9, Index: index, LogTerm: term, Data: data}, api.OK)
				}
				send(base, snapOf(base, 5))
				x.wantView(3, api.View{Up: true, Term: 9, Commit: base, Base: base, Count: base, Sum: 5})
				send(base+more, snapOf(base+more, 6))
				x.wantView(3, api.View{Up: true, Term: 9, Commit: base + more, Base: base + more, Count: base + more, Sum: 6})
			}
		}
	}
}
