package route

import (
	"slices"

	"matins/api"
	"matins/atlas"
	"matins/jobs"
)

func within(n, least, most int) bool { return n >= least && n <= most }

func rightNumbers(r api.Route) bool {
	return within(r.Nodes, 1, api.MaxNodes) && within(r.Node, 1, r.Nodes) && within(r.Left, 0, api.MaxTries)
}

// empty tells whether a map is none. Its Last and its Plan play no part: without spans they speak of nothing.
func empty(a api.Atlas) bool { return a.Groups == 0 && len(a.Spans) == 0 }

func rightMap(a api.Atlas) bool { return empty(a) || atlas.Check(a) }

// goesOn tells whether there is something left to ask: for the map, or, where its map says to whom the name belongs, for the answer.
func goesOn(r api.Route) bool {
	return r.Left > 0 && (r.Fetch || !empty(r.Map) && jobs.Named(r.Name))
}

func underWay(r api.Route) bool { return Check(r) && !r.Done }

// copied is a way that shares no memory with the one that it is made of, nor with the reply from which that one has its Map or its Result.
func copied(r api.Route) api.Route {
	r.Map = copiedMap(r.Map)
	r.Result.Jobs = slices.Clone(r.Result.Jobs)
	return r
}

func copiedMap(a api.Atlas) api.Atlas {
	a.Spans = slices.Clone(a.Spans)
	return a
}
