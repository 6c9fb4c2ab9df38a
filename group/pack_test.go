package group_test

import (
	"fmt"
	"math"
	"slices"
	"strings"
	"testing"

	"matins/api"
)

func (x *desk) records(id int) int { return x.was.records[slices.Index(x.conf, id)] }

// hand posts a message, and delivers it.
func (x *desk) hand(m api.Message, want api.Errno) {
	x.t.Helper()
	x.want(api.Act{Kind: api.ActDeliver, Id: x.post(m.From, m.To, wire(x.t, m))}, want)
}

// askOf is one that has a node write one record: its Term and its Vote.
func askOf(term int64) api.Message {
	return api.Message{Kind: api.Ask, From: 2, To: 1, Term: term}
}

// A store of 100 records isn't packed, one of 101 is.
func TestPackAbove(t *testing.T) {
	x := newDesk(t, 1, 2)
	term := int64(0)
	more := func(want int) {
		t.Helper()
		term++
		x.hand(askOf(term), api.OK)
		if got := x.records(1); got != want {
			t.Fatalf("P22.1: %d records behind the term %d, want %d", got, term, want)
		}
	}
	for n := 1; n <= 100; n++ {
		more(n)
	}
	more(1)
	for n := 2; n <= 100; n++ {
		more(n)
	}
	x.tick(1, 1) // a step that writes nothing
	if got := x.records(1); got != 100 {
		t.Errorf("P22.1: %d records", got)
	}
	x.crash(1, 0, 0)
	x.restart(1)
	if got := x.records(1); got != 100 {
		t.Errorf("P22.1: %d records behind a restart", got)
	}
	x.wantView(1, api.View{Up: true, Term: term, Vote: 2})
	more(1)
	x.crash(1, math.MaxInt, math.MaxInt)
	x.restart(1)
	x.wantView(1, api.View{Up: true, Term: term, Vote: 2})
}

// A step that fails isn't packed behind, and no other act but a step and ActPack packs.
func TestPackBehindAStep(t *testing.T) {
	for keep := range 2 {
		x := newDesk(t, 1, 2)
		for term := range int64(100) {
			x.hand(askOf(term+1), api.OK)
		}
		id := x.post(2, 1, wire(t, askOf(101)))
		x.ok(api.Act{Kind: api.ActDeliver, Id: id, Fail: true, Keep: keep})
		x.restart(1)
		x.wantView(1, api.View{Up: true, Term: int64(100 + keep), Vote: 2})
		if got := x.records(1); got != 100+keep {
			t.Errorf("P22.1: %d records, want %d", got, 100+keep)
		}
		x.tick(1, 1)
		if got, want := x.records(1), []int{100, 1}[keep]; got != want { // a step that writes nothing packs what was left
			t.Errorf("P22.1: %d records, want %d", got, want)
		}
	}
}

// A node that needs more than 100 records has them behind each packing.
func TestPackOfMany(t *testing.T) {
	x := newDesk(t, 1, 2)
	x.tick(1, 10)
	x.deliver()
	x.crash(2, 0, 0)
	for n := range 130 {
		x.propose(1, fmt.Sprint(n))
		x.drop()
	}
	if got := x.records(1); got != 1+131 {
		t.Errorf("P22.1: %d records", got)
	}
	x.pack(1) // of what is agreed on alone
	if got := x.records(1); got != 1+1+130 {
		t.Errorf("P22.1: %d records", got)
	}
	x.restart(2)
	for range 40 {
		x.tick(1, 2)
		x.deliver()
	}
	if v := x.view(2); v.Commit != 131 || v.Count != 130 {
		t.Errorf("P22.1: %+v", v)
	}
	x.pack(2)
	if got := x.records(2); got != 2 {
		t.Errorf("P22.1: %d records", got)
	}
}

// A node alone whose store needs more than half of its disk can't be packed. What was agreed on stays nonetheless.
func TestPackRefused(t *testing.T) {
	x := newDesk(t, 1)
	x.tick(1, 10)
	data := func(n int) string { return strings.Repeat(string(rune(' '+n%90)), api.MaxData) }
	n := 0
	for x.do(api.Act{Kind: api.ActPropose, Node: 1, Data: data(n)}) == api.OK {
		n++
	}
	if n < 110 || n > 130 || x.p.free(1) > api.MaxDisk/2+api.MaxData || x.p.free(1) < api.MaxDisk/4 {
		t.Fatalf("P22.1: refused behind %d entries, with %d bytes free", n, x.p.free(1))
	}
	x.wantView(1, api.View{})
	if l := x.was.agreed; len(l) != n+2 || l[n+1].Data != data(n) {
		t.Errorf("P22.3: %d entries agreed on, want %d", len(l), n+2)
	}
	x.want(api.Act{Kind: api.ActPropose, Node: 1, Data: "x"}, api.ErrState)
	agreed := x.was.agreed
	for round := range 2 {
		x.restart(1)
		x.wantView(1, api.View{Up: true, Term: 1, Vote: 1})
		if got := x.records(1); got != n+3+round { // what ActPack writes is synced ahead of the packing
			t.Errorf("P22.4: %d records, want %d", got, n+3+round)
		}
		x.want(api.Act{Kind: api.ActTick, Node: 1}, api.ErrFull) // its store has more than 100 records as it is
		x.wantView(1, api.View{})
		x.want(api.Act{Kind: api.ActTick, Node: 1}, api.ErrState)
		x.restart(1)
		x.want(api.Act{Kind: api.ActPack, Node: 1}, api.ErrFull) // nothing is known to be agreed on
		x.wantView(1, api.View{})
		x.want(api.Act{Kind: api.ActPack, Node: 1}, api.ErrState)
	}
	x.restart(1)
	x.ok(api.Act{Kind: api.ActTick, Node: 1, Fail: true}) // which comes ahead of the packing
	x.wantView(1, api.View{})
	x.wantAgreed(agreed...)
	x.wantLeaders(led(1, 1))
}

// A leader whose store can't be packed has sent, and is noted, what its step did.
func TestPackRefusedBehindWhatWasSent(t *testing.T) {
	x := newDesk(t, 1, 2)
	fill(x, 1, api.MaxDisk-20000, 4000) // in few records, the last of which is longer than what is left
	term := x.view(1).Term
	for x.records(1) < 100 {
		term++
		x.hand(askOf(term), api.OK)
	}
	x.drop()
	for x.view(1).Role != api.Candidate {
		if x.records(1) == 101 {
			t.Fatalf("P22.1: %s", x.was.told())
		}
		if err := x.do(api.Act{Kind: api.ActTick, Node: 1}); err != api.OK {
			break
		}
	}
	x.wantView(1, api.View{})
	if l := x.was.flight; len(l) != 1 || l[0].To != 2 {
		t.Errorf("P22.1: in flight: %+v", l)
	}
	x.restart(1)
	x.wantView(1, api.View{Up: true, Term: term + 1, Vote: 1, Commit: x.view(1).Commit, Base: x.view(1).Base})
}

// bundle is a message that gives node 1 or 2 a Snap, which takes room on its disk in one record.
func bundle(to int, term, index int64, data string) api.Message {
	return api.Message{Kind: api.Bundle, From: 3 - to, To: to, Term: term, Index: index, LogTerm: term, Data: data}
}

// fill fills a node's disk with Snaps that no group makes, until so many bytes are used, or up to slack fewer.
func fill(x *desk, id, used, slack int) {
	x.t.Helper()
	term := x.view(id).Term + 1
	for index := x.view(id).Base + 1; ; index++ {
		left := used - (api.MaxDisk - x.p.free(id))
		if left <= slack {
			if left < 0 {
				x.t.Fatalf("%d bytes too many", -left)
			}
			break
		}
		size := min(max(left-40, 1), api.MaxSnap)
		if left > api.MaxSnap && left < 2*api.MaxSnap {
			size = left / 2
		}
		x.hand(bundle(id, term, index, strings.Repeat("\xff", size)), api.OK)
	}
	for _, p := range x.was.flight {
		x.ok(api.Act{Kind: api.ActDrop, Id: p.Id})
	}
}

// What a step writes is refused: nothing of it stays, though a part of it found room, and whatever the act says of a crash.
func TestWriteRefused(t *testing.T) {
	for _, crash := range []api.Act{{}, {Keep: 9, Torn: 9}, {Fail: true}, {Fail: true, Keep: 9, Torn: 9}, {Fail: true, Keep: math.MaxInt, Torn: math.MaxInt}} {
		x := newDesk(t, 1, 2)
		fill(x, 1, api.MaxDisk, 40)
		was := x.view(1)
		if free := x.p.free(1); free < 10 || free > 40 {
			t.Fatalf("%d bytes free", free)
		}
		push := api.Message{Kind: api.Push, From: 2, To: 1, Term: was.Term + 1, Index: was.Commit, LogTerm: was.Term, Entries: []api.Entry{entry(was.Term+1, strings.Repeat("d", 40))}}
		crash.Kind, crash.Id = api.ActDeliver, x.post(2, 1, wire(t, push)) // the Term finds room, the entry doesn't
		x.want(crash, api.ErrFull)
		x.wantView(1, api.View{})
		if len(x.was.flight) != 0 {
			t.Errorf("P22.1: sent: %+v", x.was.flight)
		}
		x.want(crash, api.ErrMiss)
		x.restart(1)
		x.wantView(1, api.View{Up: true, Term: was.Term, Vote: was.Vote, Commit: was.Commit, Base: was.Base})
		push.Entries = nil
		x.hand(push, api.OK) // it goes on, with what finds room
		x.wantView(1, api.View{Up: true, Term: was.Term + 1, Commit: was.Commit, Base: was.Base})
	}
}

// A tick and a proposal are refused so too.
func TestWriteRefusedOfOthers(t *testing.T) {
	x := newDesk(t, 1, 2)
	fill(x, 1, api.MaxDisk-60, 40)
	was := x.view(1)
	x.tick(1, 20)
	x.hand(api.Message{Kind: api.Grant, From: 2, To: 1, Term: x.view(1).Term, Yes: true}, api.OK)
	v := x.view(1)
	if v.Role != api.Leader {
		t.Fatalf("P22.1: %+v", v)
	}
	x.drop()
	x.want(api.Act{Kind: api.ActPropose, Node: 1, Data: strings.Repeat("d", 200)}, api.ErrFull)
	x.wantView(1, api.View{})
	if len(x.was.flight) != 0 {
		t.Errorf("P22.1: sent: %+v", x.was.flight)
	}
	x.restart(1)
	x.wantView(1, api.View{Up: true, Term: v.Term, Vote: 1, Commit: was.Commit, Base: was.Base})
	leaders := len(x.was.leaders)
	for x.was.views[0].Up { // each standing is a record more
		if x.do(api.Act{Kind: api.ActTick, Node: 1}) == api.ErrFull {
			break
		}
		x.drop()
	}
	x.wantView(1, api.View{})
	if len(x.was.flight) != 0 || len(x.was.leaders) != leaders {
		t.Errorf("P22.1: %s", x.was.told())
	}
	x.restart(1)
	x.tick(1, 1)
}

// ActPack's Write, and its Pack: each with all places at which the disk may be full.
func TestPackRefusedByTheDisk(t *testing.T) {
	refused, packed := map[bool]int{}, 0
	for free := range 34 {
		x := newDesk(t, 1, 2)
		fill(x, 1, api.MaxDisk-free-10, 9)
		was := x.view(1)
		x.hand(api.Message{Kind: api.Push, From: 2, To: 1, Term: was.Term, Index: was.Commit, LogTerm: was.Term, Commit: was.Commit + 1, Entries: []api.Entry{entry(was.Term, "")}}, api.OK)
		err := x.do(api.Act{Kind: api.ActPack, Node: 1, Fail: free%2 == 0, Keep: 9, Torn: 9}) // which play no part
		if err == api.OK {
			packed++
			x.wantView(1, api.View{Up: true, Term: was.Term, Commit: was.Commit + 1, Base: was.Commit + 1})
			continue
		}
		if err != api.ErrFull {
			t.Fatalf("P22.1: ActPack: %d", err)
		}
		x.wantView(1, api.View{})
		x.restart(1)
		v := x.view(1)
		refused[v.Base == was.Base]++
		if v.Term != was.Term || v.Base != was.Base && v.Base != was.Base+1 || v.Commit != v.Base {
			t.Errorf("P22.4: %+v, was %+v", v, was)
		}
	}
	if refused[true] < 2 || refused[false] < 4 || packed < 4 {
		t.Errorf("Write refused %d times, Pack %d times, none %d times", refused[true], refused[false], packed)
	}
}

// A torn log of more than half of the disk can't be opened: the node stays down.
func TestRestartRefused(t *testing.T) {
	x := newDesk(t, 1, 2)
	fill(x, 1, api.MaxDisk*2/3, 4000)
	id := x.post(2, 1, wire(t, askOf(x.view(1).Term+1)))
	x.ok(api.Act{Kind: api.ActDeliver, Id: id, Fail: true, Torn: 3})
	for range 3 {
		x.want(api.Act{Kind: api.ActRestart, Node: 1}, api.ErrFull)
		x.wantView(1, api.View{})
	}
	for _, kind := range []int{api.ActTick, api.ActPropose, api.ActCrash, api.ActPack} {
		x.want(api.Act{Kind: kind, Node: 1, Data: "x"}, api.ErrState)
	}
	x.want(api.Act{Kind: api.ActRestart, Node: 2}, api.ErrState)
	x.tick(2, 10)
	x.deliver()
	x.wantView(2, api.View{Up: true, Role: api.Candidate, Term: 1, Vote: 2})
}

// A node that packs never follows one that does: its log is full at last, that of the other never.
func TestOneThatIsFull(t *testing.T) {
	x := newDesk(t, 1, 2)
	x.tick(1, 10)
	x.deliver()
	errs := map[api.Errno]int{}
	for n := 0; n < 300 && errs[api.ErrFull] < 3; n++ {
		x.propose(1, strings.Repeat("d", api.MaxData-n))
		for len(x.was.flight) > 0 {
			errs[x.do(api.Act{Kind: api.ActDeliver, Id: x.was.flight[0].Id})]++
		}
		if !x.view(2).Up {
			x.restart(2)
			x.tick(1, 2)
		}
		if n%8 == 7 && x.view(1).Up {
			x.pack(1)
		}
	}
	if errs[api.ErrFull] < 3 || len(errs) != 2 {
		t.Errorf("P22.1: %v", errs)
	}
	if v := x.view(1); !v.Up || v.Role != api.Leader || v.Count < 100 {
		t.Errorf("P22.1: %+v", v)
	}
	x.wantLeaders(led(1, 1))
}
