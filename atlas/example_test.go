package atlas_test

import (
	"testing"

	"matins/api"
	"matins/atlas"
)

func mapOf(groups, last int, plan api.Plan, spans ...api.Span) api.Atlas {
	return api.Atlas{Groups: groups, Last: last, Spans: spans, Plan: plan}
}

func TestExampleMove(t *testing.T) {
	a, _ := atlas.New(2)
	turns(t, "New(2)", answer{a: a}, mapOf(2, 1, api.Plan{}, spanOf("", "", 1, 1, 1)))
	plan := api.Plan{Kind: 1, Phase: 1, Shard: 1, Other: 0, Group: 2, Past: 1, Epoch: 1, Key: ""}
	a = must(t, begin(t, a, move(1, 2)))
	turns(t, "Begin", answer{a: a}, mapOf(2, 1, plan, spanOf("", "", 1, 1, 1)))
	noBegin(t, a, move(1, 2), api.ErrBusy)
	noAdvance(t, a, 2)
	a = must(t, advance(t, a, 1))
	plan.Phase = 2
	turns(t, "Advance(1)", answer{a: a}, mapOf(2, 1, plan, spanOf("", "", 1, 2, 2)))
	a = must(t, advance(t, must(t, advance(t, a, 2)), 3))
	turns(t, "Advance(2), Advance(3)", answer{a: a}, mapOf(2, 1, api.Plan{}, spanOf("", "", 1, 2, 2)))
	a = must(t, abort(t, must(t, begin(t, a, move(1, 1)))))
	turns(t, "Begin, Abort", answer{a: a}, mapOf(2, 1, api.Plan{Kind: 1, Phase: 9, Shard: 1, Group: 1, Past: 2, Epoch: 2}, spanOf("", "", 1, 4, 2)))
	a = must(t, advance(t, a, 9))
	turns(t, "Advance(9)", answer{a: a}, mapOf(2, 1, api.Plan{}, spanOf("", "", 1, 4, 2)))
}

func TestExampleSplit(t *testing.T) {
	a := mapOf(2, 1, api.Plan{}, spanOf("", "", 1, 4, 2))
	a = must(t, begin(t, a, split(1, "m")))
	turns(t, "Begin", answer{a: a}, mapOf(2, 2, api.Plan{Kind: 2, Phase: 1, Shard: 1, Other: 2, Group: 2, Epoch: 4, Key: "m"}, spanOf("", "", 1, 4, 2)))
	a = must(t, advance(t, a, 1))
	turns(t, "Advance(1)", answer{a: a}, mapOf(2, 2, api.Plan{}, spanOf("", "m", 1, 5, 2), spanOf("m", "", 2, 5, 2)))
	noBegin(t, a, merge(2), api.ErrRange)
	a = must(t, begin(t, a, merge(1)))
	turns(t, "Begin", answer{a: a}, mapOf(2, 2, api.Plan{Kind: 3, Phase: 1, Shard: 1, Other: 2, Group: 2, Epoch: 5}, spanOf("", "m", 1, 5, 2), spanOf("m", "", 2, 5, 2)))
	a = must(t, advance(t, a, 1))
	turns(t, "Advance(1)", answer{a: a}, mapOf(2, 2, api.Plan{}, spanOf("", "", 1, 6, 2)))
}

// The example of the whole: a shard moves from group 1 to group 2; then the map says group 2, epoch 2.
func TestExampleOfTheWhole(t *testing.T) {
	a, _ := atlas.New(2)
	a = must(t, begin(t, a, move(1, 2)))
	for phase := 1; phase <= 3; phase++ {
		a = must(t, advance(t, a, phase))
	}
	wantFind(t, a, "a", spanOf("", "", 1, 2, 2))
}
