package group_test

import (
	"testing"

	"matins/api"
)

// The chapter's examples, without the paper's say.

func TestExampleOne(t *testing.T) {
	x := newDesk(t, 1)
	x.tick(1, 9)
	x.wantLeaders()
	x.wantView(1, api.View{Up: true})
	x.tick(1, 1)
	x.wantView(1, api.View{Up: true, Role: api.Leader, Term: 1, Vote: 1, Commit: 1})
	x.wantAgreed(entry(1, ""))
	x.propose(1, "x")
	x.wantView(1, api.View{Up: true, Role: api.Leader, Term: 1, Vote: 1, Commit: 2, Count: 1, Sum: 0x8cdc1683})
	x.wantAgreed(entry(1, ""), entry(1, "x"))
	x.wantLeaders(led(1, 1))
	if len(x.was.flight) != 0 || x.was.broken {
		t.Errorf("P22.1: %s", x.was.told())
	}
}

func TestExampleTwo(t *testing.T) {
	x := newDesk(t, 1, 2, 3)
	x.tick(2, 10)
	ask := func(to int) string { return "\x01\x02" + string(rune(to)) + "\x01\x00\x00\x00\x00\x00\x00" }
	want := []api.Packet{{Id: 1, From: 2, To: 1, Body: ask(1)}, {Id: 2, From: 2, To: 3, Body: ask(3)}}
	if l := x.was.flight; len(l) != 2 || l[0] != want[0] || l[1] != want[1] {
		t.Fatalf("P22.1: %+v", l)
	}
	x.ok(api.Act{Kind: api.ActDeliver, Id: 1})
	x.wantView(1, api.View{Up: true, Term: 1, Vote: 2})
	grant := api.Packet{Id: 3, From: 1, To: 2, Body: "\x02\x01\x02\x01\x00\x00\x00\x01\x00\x00"}
	if l := x.was.flight; len(l) != 2 || l[1] != grant {
		t.Fatalf("P22.1: %+v", l)
	}
	x.wantLeaders()
	x.ok(api.Act{Kind: api.ActDeliver, Id: 3})
	x.wantView(2, api.View{Up: true, Role: api.Leader, Term: 1, Vote: 2})
	x.wantLeaders(led(2, 1))
	x.wantAgreed()
	x.deliver()
	x.wantAgreed(entry(1, ""))
	x.wantView(1, api.View{Up: true, Term: 1, Vote: 2})
	x.tick(2, 2)
	x.deliver()
	x.wantView(1, api.View{Up: true, Term: 1, Vote: 2, Commit: 1})
	x.wantView(3, api.View{Up: true, Term: 1, Vote: 2, Commit: 1})
}
