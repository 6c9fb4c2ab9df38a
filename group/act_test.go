package group_test

import (
	"math"
	"strings"
	"testing"

	"matins/api"
)

var ends = []int{math.MinInt, math.MinInt + 1, -1 << 31, -1, 0, 1, 2, 1 << 31, math.MaxInt - 1, math.MaxInt}

// nodeActs are the acts that are done to a node that is named, and needs to be up (ActRestart apart).
var nodeActs = []int{api.ActTick, api.ActPropose, api.ActCrash, api.ActPack, api.ActRestart}

// three is a group of which node 2 leads, node 3 is down, and something is in flight.
func three(t testing.TB) *desk {
	t.Helper()
	x := newDesk(t, 1, 2, 3)
	x.tick(2, 10)
	x.deliver()
	x.propose(2, "one")
	x.deliver()
	x.tick(2, 2)
	x.crash(3, 0, 0)
	return x
}

func TestKindsThatThereArent(t *testing.T) {
	x := three(t)
	for kind := -20; kind <= 300; kind++ {
		if kind >= api.ActTick && kind <= api.ActPack {
			continue
		}
		for _, id := range []int{0, 1, 3, 4} {
			x.want(api.Act{Kind: kind, Node: id, Id: x.was.flight[0].Id, Data: "x"}, api.ErrArg)
		}
	}
	for _, kind := range ends {
		if kind < api.ActTick || kind > api.ActPack {
			x.want(api.Act{Kind: kind, Node: 2, Id: x.was.flight[0].Id, Data: "x"}, api.ErrArg)
		}
	}
	for _, kind := range []int{api.ActCall, api.ActWait, api.ActMove, api.ActForget, api.ActPlan, api.ActLaunch, api.ActTick + 256, api.ActPack + 1<<32} {
		x.want(api.Act{Kind: kind, Node: 2}, api.ErrArg)
	}
}

func TestNoSuchNode(t *testing.T) {
	for _, kind := range nodeActs {
		x := three(t)
		for _, id := range append([]int{4, 5, 100, -2, -3}, ends...) {
			if id >= 1 && id <= 3 {
				continue
			}
			x.want(api.Act{Kind: kind, Node: id, Data: "x"}, api.ErrArg)
			x.want(api.Act{Kind: kind, Node: id, Fail: true}, api.ErrArg)
			if v, err := x.g.View(id); v != (api.View{}) || err != api.ErrArg {
				t.Errorf("P22.1: View(%d): %+v, %d", id, v, err)
			}
		}
	}
}

func TestDown(t *testing.T) {
	for _, kind := range nodeActs {
		x := three(t)
		if kind == api.ActRestart {
			x.want(api.Act{Kind: kind, Node: 1}, api.ErrState)
			x.want(api.Act{Kind: kind, Node: 2}, api.ErrState)
			x.ok(api.Act{Kind: kind, Node: 3})
			x.want(api.Act{Kind: kind, Node: 3}, api.ErrState)
			continue
		}
		x.want(api.Act{Kind: kind, Node: 3, Data: "x"}, api.ErrState)
		x.want(api.Act{Kind: kind, Node: 3, Data: ""}, api.ErrState) // ahead of what raft.Propose refuses
		x.want(api.Act{Kind: kind, Node: 3, Data: "x", Fail: true, Keep: 1, Torn: 1}, api.ErrState)
		x.wantView(3, api.View{})
		x.restart(3)
		x.wantView(3, api.View{Up: true, Term: 1, Vote: 2})
	}
}

func TestPropose(t *testing.T) {
	x := three(t)
	x.drop()
	for _, data := range []string{"x", "", strings.Repeat("x", api.MaxData+1)} {
		x.want(api.Act{Kind: api.ActPropose, Node: 1, Data: data}, api.ErrState) // no leader: ahead of its Data
	}
	for _, size := range []int{0, api.MaxData + 1, api.MaxText, 1 << 20} {
		x.want(api.Act{Kind: api.ActPropose, Node: 2, Data: strings.Repeat("x", size)}, api.ErrArg)
		x.want(api.Act{Kind: api.ActPropose, Node: 2, Data: strings.Repeat("x", size), Fail: true}, api.ErrArg) // nothing is done, so that nothing fails
	}
	for _, size := range []int{1, 2, api.MaxData - 1, api.MaxData} {
		x.propose(2, strings.Repeat("x", size))
		x.deliver()
	}
	if l := x.was.agreed; len(l) != 6 || l[5].Data != strings.Repeat("x", api.MaxData) {
		t.Errorf("P22.1: %d agreed", len(l))
	}
}

// A leader whose log has the last number that there is refuses more; it stays up. (To fill a log with MaxLog entries takes long, since its store is packed at each step.)
func TestFullLog(t *testing.T) {
	x := newDesk(t, 1, 2)
	top := int64(1) << 40
	x.ok(api.Act{Kind: api.ActDeliver, Id: x.post(2, 1, wire(t, api.Message{Kind: api.Bundle, From: 2, To: 1, Term: 4, Index: top - 1, LogTerm: 4}))})
	x.drop()
	x.tick(1, 10)
	x.drop()
	x.ok(api.Act{Kind: api.ActDeliver, Id: x.post(2, 1, wire(t, api.Message{Kind: api.Grant, From: 2, To: 1, Term: 5, Yes: true}))})
	x.wantView(1, api.View{Up: true, Role: api.Leader, Term: 5, Vote: 1, Commit: top - 1, Base: top - 1})
	was := x.was.flight
	for _, fail := range []bool{false, true} {
		x.want(api.Act{Kind: api.ActPropose, Node: 1, Data: "x", Fail: fail}, api.ErrFull)
		x.want(api.Act{Kind: api.ActPropose, Node: 1, Fail: fail}, api.ErrArg)
		x.want(api.Act{Kind: api.ActPropose, Node: 1, Data: strings.Repeat("x", api.MaxData+1), Fail: fail}, api.ErrArg)
	}
	x.wantView(1, api.View{Up: true, Role: api.Leader, Term: 5, Vote: 1, Commit: top - 1, Base: top - 1})
	if len(x.was.flight) != len(was) {
		t.Errorf("rule 3: %s", x.was.told())
	}
	if !x.was.broken { // the entries up to top were never agreed on
		t.Errorf("P22.1: not broken")
	}
}

func TestNoSuchPacket(t *testing.T) {
	x := three(t)
	there := map[int]bool{}
	for _, p := range x.was.flight {
		there[p.Id] = true
	}
	gone := x.was.flight[0].Id
	x.ok(api.Act{Kind: api.ActDrop, Id: gone})
	delete(there, gone)
	for _, kind := range []int{api.ActDeliver, api.ActDrop, api.ActDouble} {
		for id := -3; id < 60; id++ {
			if !there[id] {
				x.want(api.Act{Kind: kind, Id: id, Fail: id%2 == 0}, api.ErrMiss)
			}
		}
		for _, id := range ends {
			if !there[id] {
				x.want(api.Act{Kind: kind, Id: id}, api.ErrMiss)
			}
		}
	}
	double := x.was.flight[0]
	x.ok(api.Act{Kind: api.ActDouble, Id: double.Id})
	l := x.was.flight
	if last := l[len(l)-1]; last.Body != double.Body || last.From != double.From || last.To != double.To || last.Id <= double.Id {
		t.Errorf("P22.1: ActDouble: %+v of %+v", last, double)
	}
	x.ok(api.Act{Kind: api.ActDrop, Id: double.Id})
	x.want(api.Act{Kind: api.ActDrop, Id: double.Id}, api.ErrMiss)
}

func TestFullMesh(t *testing.T) {
	x := newDesk(t, 1, 2, 3)
	x.tick(2, 10)
	x.deliver()
	for len(x.was.flight) < api.MaxFlight-1 {
		x.tick(2, 2)
	}
	x.ok(api.Act{Kind: api.ActDrop, Id: x.was.flight[0].Id})
	before := x.was.flight
	x.propose(2, "lost in part") // one place is left of the two that are asked for
	if l := x.was.flight; len(before) != api.MaxFlight-1 || len(l) != api.MaxFlight || l[len(l)-1].To != 1 {
		t.Errorf("P22.1: %d in flight, were %d", len(l), len(before))
	}
	x.want(api.Act{Kind: api.ActDouble, Id: x.was.flight[0].Id}, api.ErrFull)
	x.want(api.Act{Kind: api.ActDouble, Id: -1}, api.ErrMiss) // ahead of ErrFull
	before = x.was.flight
	x.propose(2, "lost")
	x.tick(2, 4)
	if l := x.was.flight; len(l) != len(before) || l[len(l)-1] != before[len(l)-1] {
		t.Errorf("P22.1: %d in flight", len(l))
	}
	x.ok(api.Act{Kind: api.ActDeliver, Id: before[0].Id}) // its answer finds the place that it left
	if l := x.was.flight; len(l) != api.MaxFlight || l[len(l)-1].To != 2 {
		t.Errorf("P22.1: %d in flight", len(l))
	}
	x.deliver()
	x.tick(2, 2)
	x.deliver()
	x.wantAgreed(entry(1, ""), entry(1, "lost in part"), entry(1, "lost"))
}

func TestCutAndJoin(t *testing.T) {
	x := newDesk(t, 1, 2, 3)
	for _, a := range ends {
		for _, b := range ends {
			x.ok(api.Act{Kind: api.ActCut, Node: a, Other: b})
			x.ok(api.Act{Kind: api.ActJoin, Node: b, Other: a})
		}
	}
	x.ok(api.Act{Kind: api.ActCut, Node: 2, Other: 1})
	x.tick(2, 10)
	x.want(api.Act{Kind: api.ActDeliver, Id: 1}, api.ErrMiss)
	x.want(api.Act{Kind: api.ActDeliver, Id: 1, Fail: true}, api.ErrMiss)
	x.ok(api.Act{Kind: api.ActDouble, Id: 1})
	x.ok(api.Act{Kind: api.ActDrop, Id: 1})
	x.ok(api.Act{Kind: api.ActDeliver, Id: 2})
	x.ok(api.Act{Kind: api.ActDeliver, Id: 4})
	x.wantLeaders(led(2, 1))
	x.ok(api.Act{Kind: api.ActJoin, Node: 1, Other: 3})
	x.want(api.Act{Kind: api.ActDeliver, Id: 3}, api.ErrMiss)
	x.ok(api.Act{Kind: api.ActJoin, Node: 1, Other: 2})
	x.ok(api.Act{Kind: api.ActDeliver, Id: 3})
	x.wantView(1, api.View{Up: true, Term: 1, Vote: 2})
}

func TestTickDraws(t *testing.T) {
	for _, draw := range ends {
		x := newDesk(t, 1, 2)
		for range 40 {
			x.ok(api.Act{Kind: api.ActTick, Node: 1, Draw: draw})
		}
		if v := x.view(1); v.Term < 2 || v.Term > 4 {
			t.Errorf("P22.1: draw %d: %+v", draw, v)
		}
	}
}

// What comes to a node that is down is in flight no more; so is what comes to a node that there isn't, and what is no wire.
func TestDeliverToNobody(t *testing.T) {
	x := newDesk(t, 1, 2, 3)
	x.tick(2, 10)
	x.crash(1, 0, 0)
	x.ok(api.Act{Kind: api.ActDeliver, Id: 1, Fail: true, Keep: 1, Torn: 1})
	x.restart(1)
	x.wantView(1, api.View{Up: true})
	ask := wire(t, api.Message{Kind: api.Ask, From: 2, To: 1, Term: 9})
	was := x.was.views
	for _, to := range []int{0, -1, 4, math.MaxInt} {
		x.ok(api.Act{Kind: api.ActDeliver, Id: x.post(2, to, ask), Fail: true})
	}
	for _, body := range []string{"", "\x01", ask + "\x00", ask[1:], ask[:len(ask)-1], "\xff\xff\xff\xff\xff\xff\xff\xff\xff\xff\xff", strings.Repeat("\x00", api.MaxText)} {
		x.ok(api.Act{Kind: api.ActDeliver, Id: x.post(2, 1, body)})
		x.ok(api.Act{Kind: api.ActDeliver, Id: x.post(2, 1, body), Fail: true}) // no step, so that none fails
	}
	for i, v := range x.was.views {
		if v != was[i] {
			t.Errorf("P22.1: %+v, want %+v", x.was.views, was)
		}
	}
	x.ok(api.Act{Kind: api.ActDeliver, Id: x.post(2, 1, ask)})
	x.wantView(1, api.View{Up: true, Term: 9, Vote: 2})
	x.ok(api.Act{Kind: api.ActDeliver, Id: x.post(2, 1, wire(t, api.Message{Kind: api.Ask, From: 2, To: 1})), Fail: true}) // a message that the node doesn't take is handled nonetheless
	x.wantView(1, api.View{})
}

// What a message says of its way counts for the node, what its packet says for the mesh.
func TestPacketsOfOthers(t *testing.T) {
	x := newDesk(t, 1, 2, 3)
	ask := wire(t, api.Message{Kind: api.Ask, From: 2, To: 1, Term: 3})
	x.ok(api.Act{Kind: api.ActCut, Node: 1, Other: 2})
	x.want(api.Act{Kind: api.ActDeliver, Id: x.post(2, 1, ask)}, api.ErrMiss)
	x.ok(api.Act{Kind: api.ActDeliver, Id: x.post(2, 3, ask)})
	x.wantView(3, api.View{Up: true})
	x.ok(api.Act{Kind: api.ActDeliver, Id: x.post(-9, 1, ask)})
	x.wantView(1, api.View{Up: true, Term: 3, Vote: 2})
	if l := x.was.flight; l[len(l)-1].From != 1 || l[len(l)-1].To != 2 {
		t.Errorf("P22.1: %+v", l)
	}
}
