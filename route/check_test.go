package route_test

import (
	"math"
	"testing"

	"matins/api"
)

// rights are ways of each kind, all right.
func rights() []api.Route {
	return []api.Route{asking(), fetching(), refetching(), nameless(), over(), lost()}
}

func TestCheckRight(t *testing.T) {
	for _, r := range rights() {
		wantCheck(t, r, true)
	}
	wantCheck(t, api.Route{}, false)
	wantCheck(t, api.Route{Done: true}, false)
	wantCheck(t, api.Route{Nodes: 1, Node: 1, Done: true}, true)
	wantCheck(t, api.Route{Nodes: 1, Node: 1, Left: 1, Fetch: true}, true)
}

func TestCheckNodes(t *testing.T) {
	for _, r := range rights() {
		for nodes := -9; nodes <= 20; nodes++ {
			for node := -9; node <= 20; node++ {
				r.Nodes, r.Node = nodes, node
				wantCheck(t, r, nodes >= 1 && nodes <= api.MaxNodes && node >= 1 && node <= nodes)
			}
		}
		r.Node = 1
		for _, nodes := range []int{256 + 3, 1<<32 + 3, -1<<32 + 3, math.MaxInt, math.MinInt} {
			r.Nodes = nodes
			wantCheck(t, r, false)
		}
		r.Nodes = 5
		for _, node := range []int{256 + 3, 1<<32 + 3, -1<<32 + 3, math.MaxInt, math.MinInt} {
			r.Node = node
			wantCheck(t, r, false)
		}
	}
}

func TestCheckLeft(t *testing.T) {
	for _, r := range rights() {
		for left := -9; left <= api.MaxTries+9; left++ {
			r.Left = left
			wantCheck(t, r, left >= 0 && left <= api.MaxTries && (left > 0 || r.Done))
		}
		for _, left := range []int{256 + 3, 1<<32 + 3, -1<<32 + 3, math.MaxInt, math.MinInt} {
			r.Left = left
			wantCheck(t, r, false)
		}
	}
}

func TestCheckMap(t *testing.T) {
	for _, r := range rights() {
		for _, a := range rightMaps() {
			r.Map = a
			wantCheck(t, r, true)
		}
		for _, a := range noneMaps() { // one with a Last or a Plan alone is empty by the chapter's words
			r.Map = a
			wantCheck(t, r, r.Fetch || r.Done)
		}
		for _, a := range wrongMaps() {
			r.Map = a
			wantCheck(t, r, false)
		}
	}
}

func TestCheckName(t *testing.T) {
	for _, r := range rights() {
		for _, name := range names {
			r.Name = name
			wantCheck(t, r, true)
		}
		for _, name := range noNames {
			r.Name = name
			wantCheck(t, r, r.Fetch || r.Done)
		}
	}
}

func TestCheckFetchAndDone(t *testing.T) {
	for _, row := range []struct {
		known, named, fetch, done bool
		left                      int
		want                      bool
	}{
		{true, true, false, false, 1, true},
		{true, true, false, false, 0, false},
		{true, true, false, true, 1, true},
		{true, true, false, true, 0, true},
		{true, true, true, false, 1, true},
		{true, true, true, false, 0, false},
		{true, true, true, true, 1, true},
		{true, true, true, true, 0, true},
		{false, true, false, false, 1, false},
		{false, true, false, true, 1, true},
		{false, true, false, true, 0, true},
		{false, true, true, false, 1, true},
		{false, true, true, false, 0, false},
		{false, true, true, true, 0, true},
		{true, false, false, false, 1, false},
		{true, false, false, true, 1, true},
		{true, false, false, true, 0, true},
		{true, false, true, false, 1, true},
		{true, false, true, false, 0, false},
		{true, false, true, true, 0, true},
		{false, false, false, false, 1, false},
		{false, false, false, true, 0, true},
		{false, false, true, false, 1, true},
		{false, false, true, false, 0, false},
		{false, false, true, true, 1, true},
	} {
		r := api.Route{Nodes: 3, Name: "K", Fetch: row.fetch, Node: 2, Left: row.left, Done: row.done}
		if row.known {
			r.Map = three()
		}
		if row.named {
			r.Name = "k"
		}
		wantCheck(t, r, row.want)
		r.Map.Spans = append([]api.Span{}, r.Map.Spans...) // empty, not nil, where there are none
		wantCheck(t, r, row.want)
	}
}

// A Result plays no part in whether a way is right.
func TestCheckResult(t *testing.T) {
	for _, r := range rights() {
		for _, err := range append([]api.Errno{-1, 999, math.MaxInt}, errnos...) {
			r.Result = resultOf(err)
			wantCheck(t, r, true)
			wantCheck(t, altered(r, func(r *api.Route) { r.Left = -1 }), false)
		}
		r.Result = api.Result{Time: -1, Jobs: []api.Job{{}, {}}}
		wantCheck(t, r, true)
	}
}

// sweep goes through ways with each field just inside and just outside what is right, in all their combinations.
func sweep(each func(api.Route)) {
	maps := []api.Atlas{{}, {Spans: []api.Span{}}, three(), planned(moving), {Groups: 4, Last: 9}, {Last: 3, Spans: []api.Span{spanOf("", "", 1, 1, 1)}}, {Plan: moving}}
	for _, a := range maps {
		for _, nodes := range []int{0, 1, 2, api.MaxNodes, api.MaxNodes + 1} {
			for _, node := range []int{0, 1, 2, 3, api.MaxNodes, api.MaxNodes + 1} {
				for _, left := range []int{-1, 0, 1, 2, api.MaxTries, api.MaxTries + 1} {
					for _, name := range []string{"k", "", "K"} {
						for flags := range 4 {
							each(api.Route{Nodes: nodes, Name: name, Map: a, Fetch: flags&1 != 0, Node: node, Left: left, Done: flags&2 != 0, Result: api.Result{Err: api.ErrFull}})
						}
					}
				}
			}
		}
	}
}

func TestSweep(t *testing.T) {
	replies := []api.Reply{{}, {Kind: api.Redirect, Hint: 2}, {Kind: api.Answered, Result: resultOf(api.OK)}, {Kind: api.Answered, Result: resultOf(api.ErrEpoch)}, {Kind: api.Mapped, Map: other()}}
	n, right := 0, 0
	sweep(func(r api.Route) {
		n++
		if check(t, r) {
			right++
		}
		where(t, r)
		heard(t, r, replies[n%len(replies)])
		heard(t, r, replies[n/7%len(replies)])
		if t.Failed() {
			t.FailNow()
		}
	})
	if right < n/20 || right > n/2 {
		t.Errorf("%d of %d are right", right, n)
	}
}
