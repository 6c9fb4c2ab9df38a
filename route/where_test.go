package route_test

import (
	"cmp"
	"math"
	"strings"
	"testing"

	"matins/api"
)

func TestWhereFetch(t *testing.T) {
	for node := 1; node <= api.MaxNodes; node++ {
		for _, r := range []api.Route{fetching(), refetching(), nameless()} {
			r.Nodes, r.Node = api.MaxNodes, node
			asks(t, r, 0, node, 0, 0)
		}
	}
	for _, a := range append(rightMaps(), noneMaps()...) {
		for _, name := range append([]string{"k"}, noNames...) {
			asks(t, api.Route{Nodes: 2, Name: name, Map: a, Fetch: true, Node: 2, Left: 1}, 0, 2, 0, 0)
		}
	}
}

// below is the last name below another one of one byte.
func below(name string) string {
	return string(name[0]-1) + strings.Repeat("z", api.MaxName-1)
}

func TestWhereSpans(t *testing.T) {
	for _, row := range []struct {
		name               string
		group, shard, span int
	}{
		{"-", 1, 4, 0}, {"-" + strings.Repeat("-", api.MaxName-1), 1, 4, 0}, {".", 1, 4, 0}, {"0", 1, 4, 0}, {"a", 1, 4, 0}, {"g", 1, 4, 0}, {below("h"), 1, 4, 0},
		{"h", 2, 2, 1}, {"h-", 2, 2, 1}, {"h" + strings.Repeat("-", api.MaxName-1), 2, 2, 1}, {"i", 2, 2, 1}, {"k", 2, 2, 1}, {"o", 2, 2, 1}, {below("p"), 2, 2, 1},
		{"p", 2, 7, 2}, {"p-", 2, 7, 2}, {"p" + strings.Repeat("-", api.MaxName-1), 2, 7, 2}, {"q", 2, 7, 2}, {"z", 2, 7, 2}, {strings.Repeat("z", api.MaxName), 2, 7, 2},
	} {
		for node := 1; node <= 5; node++ {
			r := asking()
			r.Name, r.Node = row.name, node
			asks(t, r, row.group, node, row.shard, three().Spans[row.span].Epoch)
			r.Fetch = true
			asks(t, r, 0, node, 0, 0)
		}
	}
}

func TestWhereManySpans(t *testing.T) {
	for n := 1; n <= api.MaxShards; n++ {
		a := many(n)
		for i, s := range a.Spans {
			from := cmp.Or(s.From, "m")
			for _, name := range []string{from, from + "-", from + "5", from + strings.Repeat("z", api.MaxName-len(from))} {
				asks(t, api.Route{Nodes: 3, Name: name, Map: a, Node: 2, Left: 3}, 1+i%3, 2, n+1-i, int64(1+i))
			}
		}
	}
	one := api.Atlas{Groups: api.MaxGroups, Last: top, Spans: []api.Span{spanOf("", "", top, top, api.MaxGroups)}}
	for _, name := range names {
		asks(t, api.Route{Nodes: 3, Name: name, Map: one, Node: 2, Left: 3}, api.MaxGroups, 2, top, top)
	}
}

// While a plan is under way, the spans say what is asked, and the plan nothing.
func TestWherePlanned(t *testing.T) {
	for _, p := range []api.Plan{moving, moved, opened, unmoved, parting, unparted, joining, unjoined} {
		for _, name := range []string{"a", "h", "k", "m", "n", "p"} {
			r := asking()
			r.Name = name
			was := where(t, r)
			r.Map = planned(p)
			if x := where(t, r); !x.same(was) || x.same(answer{}) {
				t.Errorf("P21.2: Where of %s: %s", toldWay(r), x.told())
			}
		}
	}
}

func TestWhereOver(t *testing.T) {
	for _, r := range rights() {
		r.Done = true
		for _, fetch := range []bool{false, true} {
			for _, left := range []int{0, 1, api.MaxTries} {
				r.Fetch, r.Left = fetch, left
				asks(t, r, 0, 0, 0, 0)
			}
		}
	}
}

// wrongWays are ways that aren't right, each for its own reason.
func wrongWays() []api.Route {
	all := []api.Route{{}, {Nodes: 3, Name: "k", Map: three(), Node: 1}, {Nodes: 3, Name: "k", Node: 1, Left: 5}, {Nodes: 3, Name: "k", Map: api.Atlas{Last: 9}, Node: 1, Left: 5}, {Nodes: 3, Name: "k", Map: api.Atlas{Plan: moving}, Node: 1, Left: 5}, {Nodes: 3, Name: "", Map: three(), Node: 1, Left: 5}}
	for _, r := range []api.Route{asking(), fetching(), refetching(), nameless()} {
		for _, n := range []int{0, -1, 8, math.MaxInt, math.MinInt, 1<<32 + 5} {
			all = append(all, altered(r, func(r *api.Route) { r.Nodes = n }), altered(r, func(r *api.Route) { r.Node = n }))
		}
		for _, n := range []int{0, -1, api.MaxTries + 1, math.MaxInt, math.MinInt, 1<<32 + 5} {
			all = append(all, altered(r, func(r *api.Route) { r.Left = n }))
		}
		all = append(all, altered(r, func(r *api.Route) { r.Node = 6 }), altered(r, func(r *api.Route) { r.Nodes = 2 }))
		for _, a := range wrongMaps() {
			all = append(all, altered(r, func(r *api.Route) { r.Map = a }))
		}
	}
	for _, name := range noNames {
		all = append(all, altered(asking(), func(r *api.Route) { r.Name = name }))
	}
	return all
}

func TestWhereNotRight(t *testing.T) {
	for _, r := range wrongWays() {
		wantCheck(t, r, false)
		asks(t, r, 0, 0, 0, 0)
	}
}
