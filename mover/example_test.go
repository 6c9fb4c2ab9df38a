package mover_test

import (
	"testing"

	"matins/api"
	"matins/atlas"
)

func begin(t *testing.T, a api.Atlas, p api.Plan) api.Atlas {
	t.Helper()
	a, err := atlas.Begin(a, p)
	began(t, err)
	return a
}

func advance(t *testing.T, a api.Atlas, phase int) api.Atlas {
	t.Helper()
	a, err := atlas.Advance(a, phase)
	if err != api.OK {
		t.Fatalf("Advance(%d): %d", phase, err)
	}
	return a
}

func TestExampleMove(t *testing.T) {
	a, _ := atlas.New(2)
	a = begin(t, a, api.Plan{Kind: api.PlanMove, Shard: 1, Group: 2})
	none := api.Shard{}
	goesOut(t, a, none, 1, freeze(1, 1))
	the := shardOf(1, 1, api.Frozen)
	means(t, a, none, api.Result{}, the, the, 0)
	goesOut(t, a, the, 2, install(held(the, 2)))
	means(t, a, the, api.Result{}, none, the, 1)
	a = advance(t, a, 1)
	goesOut(t, a, the, 2, open(1, 2))
	means(t, a, the, api.Result{}, none, none, 2)
	a = advance(t, a, 2)
	goesOut(t, a, none, 1, retire(1, 1))
	means(t, a, none, api.Result{}, none, none, 3)
	a = advance(t, a, 3)
	idle(t, a, none)
}

func TestExampleGivenUp(t *testing.T) {
	a, _ := atlas.New(2)
	a = begin(t, a, api.Plan{Kind: api.PlanMove, Shard: 1, Group: 2})
	none, the := api.Shard{}, shardOf(1, 1, api.Frozen)
	means(t, a, the, api.Result{Err: api.ErrFull}, none, the, -1)
	a, _ = atlas.Abort(a)
	goesOut(t, a, the, 2, retire(1, 2))
	gone := api.Shard{Id: 1, Epoch: 1, State: api.Gone}
	means(t, a, the, api.Result{}, none, gone, 0)
	goesOut(t, a, gone, 1, thaw(1, 1, 3))
	means(t, a, gone, api.Result{}, none, none, 9)
	goesOut(t, a, none, 1, freeze(1, 1)) // it has lost what it had
	means(t, a, none, api.Result{Err: api.ErrEpoch}, none, api.Shard{Id: 1, Epoch: 1}, 0)
	idle(t, advance(t, a, 9), none)
}
