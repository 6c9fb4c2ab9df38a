package route_test

import (
	"math"
	"testing"

	"matins/api"
	"matins/atlas"
)

// begins looks whether a way begins as it should.
func begins(t *testing.T, nodes int, name string, known api.Atlas, tries int, want api.Route) {
	t.Helper()
	if x := begin(t, nodes, name, known, tries); !x.same(answer{r: want}) {
		t.Errorf("P21.1: Begin(%d, %q, %s, %d): %s", nodes, name, toldMap(known), tries, x.told())
	}
}

func refused(t *testing.T, nodes int, name string, known api.Atlas, tries int) {
	t.Helper()
	if x := begin(t, nodes, name, known, tries); !x.same(answer{err: api.ErrArg}) {
		t.Errorf("P21.1: Begin(%d, %.20q, %s, %d): %s", nodes, name, toldMap(known), tries, x.told())
	}
}

func TestBeginNodes(t *testing.T) {
	for nodes := 1; nodes <= api.MaxNodes; nodes++ {
		begins(t, nodes, "k", three(), 5, api.Route{Nodes: nodes, Name: "k", Map: three(), Node: 1, Left: 5})
		begins(t, nodes, "k", api.Atlas{}, 5, api.Route{Nodes: nodes, Name: "k", Fetch: true, Node: 1, Left: 5})
	}
	for _, nodes := range []int{0, -1, -3, api.MaxNodes + 1, 9, 64, 256 + 3, 1<<32 + 3, -1<<32 + 3, math.MaxInt, math.MinInt} {
		refused(t, nodes, "k", three(), 5)
		refused(t, nodes, "k", api.Atlas{}, 5)
	}
}

func TestBeginTries(t *testing.T) {
	for tries := 1; tries <= api.MaxTries; tries++ {
		begins(t, 3, "k", three(), tries, api.Route{Nodes: 3, Name: "k", Map: three(), Node: 1, Left: tries})
		begins(t, 3, "k", api.Atlas{}, tries, api.Route{Nodes: 3, Name: "k", Fetch: true, Node: 1, Left: tries})
	}
	for _, tries := range []int{0, -1, -64, api.MaxTries + 1, 256 + 5, 1<<32 + 5, -1<<32 + 5, math.MaxInt, math.MinInt} {
		refused(t, 3, "k", three(), tries)
		refused(t, 3, "k", api.Atlas{}, tries)
	}
}

func TestBeginName(t *testing.T) {
	for _, name := range names {
		begins(t, 3, name, three(), 5, api.Route{Nodes: 3, Name: name, Map: three(), Node: 1, Left: 5})
		begins(t, 3, name, api.Atlas{}, 5, api.Route{Nodes: 3, Name: name, Fetch: true, Node: 1, Left: 5})
	}
	for _, name := range noNames {
		refused(t, 3, name, three(), 5)
		refused(t, 3, name, api.Atlas{}, 5)
	}
	for b := range 256 {
		begin(t, 3, string([]byte{'n', byte(b)}), three(), 5)
		begin(t, 3, string([]byte{byte(b)}), three(), 5)
	}
}

// Of a map that isn't right nothing is kept, of an empty one its Last and its Plan neither.
func TestBeginMap(t *testing.T) {
	for _, a := range rightMaps() {
		if !atlas.Check(a) {
			t.Fatalf("%s isn't right", toldMap(a))
		}
		begins(t, 3, "k", a, 5, api.Route{Nodes: 3, Name: "k", Map: a, Node: 1, Left: 5})
		refused(t, 0, "k", a, 5)
	}
	for _, a := range append(noneMaps(), wrongMaps()...) {
		if atlas.Check(a) {
			t.Fatalf("%s is right", toldMap(a))
		}
		begins(t, 3, "k", a, 5, api.Route{Nodes: 3, Name: "k", Fetch: true, Node: 1, Left: 5})
		refused(t, 3, "", a, 5)
	}
}

func TestBeginAtAllEnds(t *testing.T) {
	for _, nodes := range append(edges(0), edges(api.MaxNodes)...) {
		for _, tries := range append(edges(0), edges(api.MaxTries)...) {
			for _, name := range []string{"k", "", "K", names[8], names[8] + "g"} {
				for _, a := range []api.Atlas{{}, three(), {Groups: 1}} {
					begin(t, nodes, name, a, tries)
				}
			}
		}
	}
}
