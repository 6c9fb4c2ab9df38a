package shard_test

import (
	"math"
	"slices"
	"testing"

	"matins/api"
)

// daily is a job that is due at midnight, with a Token that no order tells.
func daily(name string, client int, seq, mark int64) api.Job {
	return api.Job{Name: name, Expr: "0 0 * * *", Zone: "utc", Token: "tok", Client: client, Seq: seq, Mark: mark}
}

func launchOrder(id int, epoch int64, name string, client int, seq, at int64) api.Order {
	return api.Order{Kind: api.OrdCmd, Shard: id, Epoch: epoch, Cmd: api.Cmd{Kind: api.CmdLaunch, Client: client, Seq: seq, Name: name, Time: at}}
}

func wantDue(t testing.TB, list []api.Shard, upto int64, want ...api.Order) {
	t.Helper()
	if got := dueOf(t, list, upto); !slices.EqualFunc(got, want, sameOrder) {
		t.Errorf("P18.2: Due(%s, %d): %+v, want %+v", told(list), upto, got, want)
	}
}

func TestDueByState(t *testing.T) {
	for _, state := range liveStates {
		s := api.Shard{Id: 3, Epoch: 7, State: state, Jobs: []api.Job{daily("a", 5, 9, 100)}}
		if state != api.Serving {
			wantDue(t, []api.Shard{s}, math.MaxInt64)
			continue
		}
		wantDue(t, []api.Shard{s}, 1440, launchOrder(3, 7, "a", 5, 9, 1440))
		wantDue(t, []api.Shard{s}, 1441, launchOrder(3, 7, "a", 5, 9, 1440))
		wantDue(t, []api.Shard{s}, math.MaxInt64, launchOrder(3, 7, "a", 5, 9, 1440))
		for _, upto := range []int64{1439, 100, 0, -1, math.MinInt64} {
			wantDue(t, []api.Shard{s}, upto)
		}
	}
	wantDue(t, []api.Shard{shardOf(3, 7, api.Gone, "", "")}, math.MaxInt64)
	wantDue(t, nil, math.MaxInt64)
	wantDue(t, []api.Shard{{Id: 3, Epoch: 7, State: api.Serving}}, math.MaxInt64)
}

// Shard by shard in their order, in each by Time, of one Time by name; what is paused, and what has no occurrence any more, is left out.
func TestDueOrder(t *testing.T) {
	paused := daily("c", 1, 1, 0)
	paused.Paused = true
	hourly := api.Job{Name: "d", Expr: "0 * * * *", Zone: "utc", Client: 2, Seq: 6, Mark: 0}
	list := []api.Shard{
		{Id: 1, Epoch: 9, State: api.Serving, To: "m", Jobs: []api.Job{daily("a", 1, 1, 1440), daily("b", 2, 2, 0), paused, hourly, daily("e", 3, 3, 0), daily("f", 3, 4, api.MaxTime)}},
		{Id: 2, Epoch: 9, State: api.Frozen, Jobs: []api.Job{daily("a", 1, 1, 0)}},
		{Id: 3, Epoch: 2, State: api.Serving, From: "m", Jobs: []api.Job{daily("n", 7, 7, 0), {Name: "o", Expr: "30 0 * * *", Zone: "utc", Client: 8, Seq: 8, Mark: -1}}},
		{Id: 4, Epoch: 9, State: api.Held, Jobs: []api.Job{daily("a", 1, 1, 0)}},
		{Id: 5, Epoch: 9, State: api.Gone},
		{Id: 6, Epoch: 1, State: api.Serving, Jobs: []api.Job{daily("n", 7, 7, 0)}},
	}
	all := []api.Order{
		launchOrder(1, 9, "d", 2, 6, 60), launchOrder(1, 9, "b", 2, 2, 1440), launchOrder(1, 9, "e", 3, 3, 1440), launchOrder(1, 9, "a", 1, 1, 2880),
		launchOrder(3, 2, "o", 8, 8, 30), launchOrder(3, 2, "n", 7, 7, 1440),
		launchOrder(6, 1, "n", 7, 7, 1440),
	}
	wantDue(t, list, 2880, all...)
	wantDue(t, list, api.MaxTime, all...)
	wantDue(t, list, 2879, slices.Concat(all[:3], all[4:])...)
	wantDue(t, list, 60, all[0], all[4])
	wantDue(t, list, 59, all[4])
	wantDue(t, list, 29)
	list[0].Jobs[0].Zone = "mars"
	wantDue(t, list, api.MaxTime)
}

// Each order that is due can be done, and behind it the job is due later, until nothing is up to then.
func TestDueIsDone(t *testing.T) {
	list := served()
	launched := map[string][]int64{}
	for range 20 {
		for _, o := range dueOf(t, list, 5000) {
			got := must(t, list, o)
			if got.result.Time != o.Cmd.Time || len(got.result.Jobs) != 1 || got.result.Jobs[0].Name != o.Cmd.Name {
				t.Errorf("P18.2: %s: %s", toldOrder(o), got.told())
			}
			list = got.list
			launched[o.Cmd.Name] = append(launched[o.Cmd.Name], o.Cmd.Time)
			refuse(t, list, o, api.ErrTime)
		}
	}
	wantDue(t, list, 5000)
	for _, name := range []string{"a", "aa", "b", "c", "d", "lzz"} {
		if !slices.Equal(launched[name], []int64{1440, 2880, 4320}) {
			t.Errorf("P18.2: %q is launched at %v", name, launched[name])
		}
	}
	if len(launched) != 6 {
		t.Errorf("P18.2: launched: %v", launched)
	}
}
