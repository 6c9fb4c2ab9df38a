package route_test

import (
	"testing"

	"matins/api"
	"matins/atlas"
)

func TestExampleWay(t *testing.T) {
	x := begin(t, 3, "a", api.Atlas{}, 5)
	if x.err != api.OK {
		t.Fatalf("P21.1: %s", x.told())
	}
	asks(t, x.r, 0, 1, 0, 0)
	r := heard(t, x.r, api.Reply{Kind: api.Redirect, Hint: 3})
	if r.Node != 3 || r.Left != 4 {
		t.Errorf("P21.3: %s", toldWay(r))
	}
	a, _ := atlas.New(2)
	r = heard(t, r, api.Reply{Kind: api.Mapped, Map: a})
	asks(t, r, 1, 1, 1, 1)
	r = heard(t, r, api.Reply{Kind: api.Answered, Result: api.Result{Err: api.ErrFrozen}})
	if !r.Fetch {
		t.Errorf("P21.3: %s", toldWay(r))
	}
	r = heard(t, r, api.Reply{})
	if r.Node != 2 || r.Left != 1 {
		t.Errorf("P21.3: %s", toldWay(r))
	}
	turns(t, r, api.Reply{}, api.Route{Nodes: 3, Name: "a", Map: a, Node: 3, Done: true, Result: api.Result{Err: api.ErrLost}})
}

func TestExampleRefused(t *testing.T) {
	a, _ := atlas.New(2)
	refused(t, 3, "A", a, 5)
	refused(t, 0, "a", a, 5)
	refused(t, 3, "a", a, 65)
}

// A way with all that may come between: no leader is known, the map is asked of a node that is down, the map is old, the shard is on its way.
func TestExampleLongWay(t *testing.T) {
	old, _ := atlas.New(2)
	moving, _ := atlas.Begin(old, api.Plan{Kind: api.PlanMove, Shard: 1, Group: 2})
	moved, _ := atlas.Advance(moving, 1)
	r := begin(t, 3, "a", old, 8).r
	asks(t, r, 1, 1, 1, 1)
	for _, step := range []struct {
		p           api.Reply
		group, node int
		epoch       int64
	}{
		{api.Reply{Kind: api.Redirect}, 1, 2, 1},
		{api.Reply{Kind: api.Answered, Result: api.Result{Err: api.ErrFrozen}}, 0, 1, 0},
		{api.Reply{}, 0, 2, 0},
		{api.Reply{Kind: api.Mapped, Map: moving}, 1, 1, 1}, // the plan isn't that far yet
		{api.Reply{Kind: api.Answered, Result: api.Result{Err: api.ErrShard}}, 0, 1, 0},
		{api.Reply{Kind: api.Mapped, Map: moved}, 2, 1, 2},
	} {
		r = heard(t, r, step.p)
		shard := 1
		if step.group == 0 {
			shard = 0
		}
		asks(t, r, step.group, step.node, shard, step.epoch)
	}
	done := api.Result{Jobs: []api.Job{jobOf("a")}}
	turns(t, r, api.Reply{Kind: api.Answered, Result: done}, api.Route{Nodes: 3, Name: "a", Map: moved, Node: 1, Left: 2, Done: true, Result: done})
}
