package route

import (
	"matins/api"
	"matins/atlas"
	"matins/jobs"
)

// behind is a way that is under way, behind a reply. It shares memory with both.
func behind(r api.Route, p api.Reply) api.Route {
	if ends(r, p) {
		return ended(r, p.Result)
	}
	return counted(turned(r, p))
}

// astray tells whether an error says that the map is an old one: the shard isn't there, or not as the map tells it.
func astray(err api.Errno) bool {
	return err == api.ErrShard || err == api.ErrEpoch || err == api.ErrFrozen
}

// ends tells whether a reply is the answer for which the way was gone.
func ends(r api.Route, p api.Reply) bool {
	return p.Kind == api.Answered && !r.Fetch && !astray(p.Result.Err)
}

// ended is a way that is over. It shares memory with the Result.
func ended(r api.Route, result api.Result) api.Route {
	r.Done, r.Result, r.Fetch = true, result, false
	return r
}

// turned is a way behind a reply that doesn't end it: where it asks then. It shares memory with the reply's map.
func turned(r api.Route, p api.Reply) api.Route {
	switch {
	case p.Kind == api.Answered && !r.Fetch:
		r.Fetch, r.Node = true, 1
	case p.Kind == api.Mapped && r.Fetch && atlas.Check(p.Map):
		r.Map, r.Fetch, r.Node = p.Map, !jobs.Named(r.Name), 1
	case p.Kind == api.Redirect && p.Hint != r.Node && within(p.Hint, 1, r.Nodes):
		r.Node = p.Hint
	default:
		r.Node = next(r)
	}
	return r
}

func next(r api.Route) int {
	if r.Node == r.Nodes {
		return 1
	}
	return r.Node + 1
}

// counted is a way behind one more asking that brought no answer.
func counted(r api.Route) api.Route {
	r.Left--
	if r.Left == 0 {
		return ended(r, api.Result{Err: api.ErrLost})
	}
	return r
}
