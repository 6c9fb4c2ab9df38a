package route_test

import (
	"math"
	"testing"

	"matins/api"
	"matins/route"
)

// after is a way with a node, a step further.
func after(r api.Route, node int) api.Route {
	r.Node = node
	r.Left--
	return r
}

// asked are ways that are under way, of each kind, at a node.
func asked(node int) []api.Route {
	all := []api.Route{asking(), fetching(), refetching(), nameless()}
	for i := range all {
		all[i].Node = node
	}
	return all
}

// nextOf is the node behind one of five.
func nextOf(node int) int { return []int{0, 2, 3, 4, 5, 1}[node] }

// passes are replies that tell a way nothing.
func passes(r api.Route) []api.Reply {
	full := api.Reply{Hint: 1, Result: resultOf(api.OK), Map: other()}
	var all []api.Reply
	for _, kind := range []int{api.NoReply, -1, 4, 5, math.MaxInt, math.MinInt, 256 + api.Answered, 1<<32 + api.Mapped, 1<<32 + api.Answered, 1<<32 + api.Redirect, -api.Redirect} {
		full.Kind = kind
		all = append(all, full, api.Reply{Kind: kind})
	}
	if !r.Fetch {
		full.Kind = api.Mapped
		return append(all, full, api.Reply{Kind: api.Mapped})
	}
	for _, err := range errnos {
		all = append(all, api.Reply{Kind: api.Answered, Hint: 2, Result: resultOf(err), Map: other()})
	}
	return append(all, api.Reply{Kind: api.Answered})
}

func TestHeardNothing(t *testing.T) {
	for node := 1; node <= 5; node++ {
		for _, r := range asked(node) {
			for _, p := range passes(r) {
				turns(t, r, p, after(r, nextOf(node)))
			}
		}
	}
}

// The node behind the last one is the first, of however many there are.
func TestHeardNothingOfSomeNodes(t *testing.T) {
	for nodes := 1; nodes <= api.MaxNodes; nodes++ {
		for _, r := range asked(1) {
			r.Nodes, r.Left = nodes, api.MaxTries
			for i := range 3 * nodes {
				if r.Node != i%nodes+1 || r.Left != api.MaxTries-i {
					t.Fatalf("P21.3: %d nodes, behind %d replies: %s", nodes, i, toldWay(r))
				}
				r = heard(t, r, passes(r)[i])
			}
		}
	}
}

func TestHeardAnswered(t *testing.T) {
	for node := 1; node <= 5; node++ {
		for _, left := range []int{1, 2, 9, api.MaxTries} {
			r := altered(asking(), func(r *api.Route) { r.Node, r.Left = node, left })
			for _, err := range append([]api.Errno{-1, 174, 999, math.MaxInt, 1<<32 + api.ErrShard, 256 + api.ErrShard, -api.ErrEpoch}, errnos...) {
				for _, result := range []api.Result{{Err: err}, {Err: err, Time: 5}, {Err: err, Jobs: []api.Job{}}, resultOf(err)} {
					p := api.Reply{Kind: api.Answered, Hint: 2, Result: result, Map: other()}
					switch {
					case err != api.ErrShard && err != api.ErrEpoch && err != api.ErrFrozen:
						turns(t, r, p, altered(r, func(r *api.Route) { r.Done, r.Result = true, result }))
					case left > 1:
						turns(t, r, p, altered(after(r, 1), func(r *api.Route) { r.Fetch = true }))
					default:
						turns(t, r, p, altered(after(r, 1), func(r *api.Route) { r.Done, r.Result = true, api.Result{Err: api.ErrLost} }))
					}
				}
			}
		}
	}
}

// The map that is known stays behind an answer that says that it is old, till another one is told.
func TestHeardAnsweredKeepsTheMap(t *testing.T) {
	for _, a := range rightMaps() {
		r := altered(asking(), func(r *api.Route) { r.Map = a })
		r = heard(t, r, api.Reply{Kind: api.Answered, Result: api.Result{Err: api.ErrShard}})
		if !sameMap(r.Map, a) || !r.Fetch {
			t.Errorf("P21.3: %s", toldWay(r))
		}
		turns(t, r, api.Reply{Kind: api.Mapped, Map: api.Atlas{Groups: 9}}, after(r, 2))
		turns(t, r, api.Reply{Kind: api.Mapped, Map: three()}, altered(after(r, 1), func(r *api.Route) { r.Map, r.Fetch = three(), false }))
	}
}

func TestHeardMapped(t *testing.T) {
	for node := 1; node <= 5; node++ {
		for _, r := range asked(node)[1:] {
			for _, a := range rightMaps() {
				named := r.Name == "k"
				p := api.Reply{Kind: api.Mapped, Hint: 2, Result: resultOf(api.OK), Map: a}
				turns(t, r, p, altered(after(r, 1), func(r *api.Route) { r.Map, r.Fetch = a, !named }))
				turns(t, r, api.Reply{Kind: api.Mapped, Map: a}, altered(after(r, 1), func(r *api.Route) { r.Map, r.Fetch = a, !named }))
			}
			for _, a := range append(noneMaps(), wrongMaps()...) {
				turns(t, r, api.Reply{Kind: api.Mapped, Hint: 2, Result: resultOf(api.OK), Map: a}, after(r, nextOf(node)))
			}
		}
		for _, a := range append(rightMaps(), wrongMaps()...) { // it hasn't asked for one
			r := asked(node)[0]
			turns(t, r, api.Reply{Kind: api.Mapped, Map: a}, after(r, nextOf(node)))
		}
	}
}

func TestHeardMappedName(t *testing.T) {
	p := api.Reply{Kind: api.Mapped, Map: other()}
	for _, name := range names {
		r := altered(fetching(), func(r *api.Route) { r.Name = name })
		turns(t, r, p, altered(after(r, 1), func(r *api.Route) { r.Map, r.Fetch = other(), false }))
	}
	for _, name := range noNames {
		r := altered(fetching(), func(r *api.Route) { r.Name = name })
		turns(t, r, p, altered(after(r, 1), func(r *api.Route) { r.Map = other() }))
	}
}

func TestHeardRedirect(t *testing.T) {
	for node := 1; node <= 5; node++ {
		for _, r := range asked(node) {
			for hint := -9; hint <= 20; hint++ {
				want := nextOf(node)
				if hint >= 1 && hint <= 5 && hint != node {
					want = hint
				}
				turns(t, r, api.Reply{Kind: api.Redirect, Hint: hint}, after(r, want))
				turns(t, r, api.Reply{Kind: api.Redirect, Hint: hint, Result: resultOf(api.OK), Map: other()}, after(r, want))
			}
			for _, hint := range []int{256 + 2, 1<<32 + 2, -1<<32 + 2, math.MaxInt, math.MinInt} {
				turns(t, r, api.Reply{Kind: api.Redirect, Hint: hint}, after(r, nextOf(node)))
			}
		}
	}
}

func TestHeardRedirectOfSomeNodes(t *testing.T) {
	for nodes := 1; nodes <= api.MaxNodes; nodes++ {
		for node := 1; node <= nodes; node++ {
			for _, hint := range []int{-1, 0, 1, node - 1, node, node + 1, nodes - 1, nodes, nodes + 1, api.MaxNodes, api.MaxNodes + 1} {
				want := node + 1
				if node == nodes {
					want = 1
				}
				if hint >= 1 && hint <= nodes && hint != node {
					want = hint
				}
				r := altered(asking(), func(r *api.Route) { r.Nodes, r.Node = nodes, node })
				turns(t, r, api.Reply{Kind: api.Redirect, Hint: hint}, after(r, want))
			}
		}
	}
}

// told are replies of each kind, of which the last two end a way that asks its group.
func told() []api.Reply {
	return []api.Reply{{}, {Kind: 9}, {Kind: api.Redirect}, {Kind: api.Redirect, Hint: 2}, {Kind: api.Mapped}, {Kind: api.Mapped, Map: other()}, {Kind: api.Answered, Result: resultOf(api.ErrShard)}, {Kind: api.Answered, Result: resultOf(api.ErrEpoch)}, {Kind: api.Answered, Result: resultOf(api.ErrFrozen)}, {Kind: api.Answered, Result: resultOf(api.OK)}, {Kind: api.Answered, Result: resultOf(api.ErrMiss)}}
}

// With the last asking a way is over, where it would ask next as well as it goes.
func TestHeardLast(t *testing.T) {
	for node := 1; node <= 5; node++ {
		for _, r := range asked(node) {
			for i, p := range told() {
				r.Left = 2
				two := heard(t, r, p)
				r.Left = 1
				one := heard(t, r, p)
				if i >= len(told())-2 && !r.Fetch {
					if two.Left != 2 || one.Left != 1 || !one.Done || !sameResult(one.Result, p.Result) {
						t.Errorf("P21.3: %s: %s", toldReply(p), toldWay(one))
					}
					continue
				}
				want := altered(two, func(r *api.Route) {
					r.Left, r.Fetch, r.Done, r.Result = 0, false, true, api.Result{Err: api.ErrLost}
				})
				if two.Left != 1 || two.Done || !sameWay(one, want) {
					t.Errorf("P21.3: %s: with 2 left %s, with 1 %s", toldReply(p), toldWay(two), toldWay(one))
				}
				wantCheck(t, one, true)
				asks(t, one, 0, 0, 0, 0)
			}
		}
	}
}

// What a way under way has as its Result stays till it is over, and then it is gone.
func TestHeardResult(t *testing.T) {
	for _, r := range asked(3) {
		r.Result = resultOf(api.ErrBusy)
		for _, p := range told() {
			turns(t, r, p, paperHeard(r, p).r)
		}
		r.Left = 1
		got := heard(t, r, api.Reply{})
		if !sameResult(got.Result, api.Result{Err: api.ErrLost}) {
			t.Errorf("P21.3: %s", toldWay(got))
		}
	}
}

func TestHeardOver(t *testing.T) {
	for _, r := range rights() {
		r.Done = true
		for _, left := range []int{0, 1, 2, api.MaxTries} {
			for _, fetch := range []bool{false, true} {
				r.Left, r.Fetch = left, fetch
				for _, p := range append(told(), passes(r)...) {
					turns(t, r, p, r)
				}
			}
		}
	}
}

func TestHeardNotRight(t *testing.T) {
	for _, r := range wrongWays() {
		r.Result = resultOf(api.ErrFull)
		for _, p := range told() {
			turns(t, r, p, r)
		}
	}
}

// A way and a reply that share memory with each other are left as they are, and the answer shares none with them.
func TestHeardShared(t *testing.T) {
	a, jobs := three(), []api.Job{jobOf("a"), jobOf("b")}
	for _, p := range told() {
		for _, r := range append(asked(2), over(), api.Route{}) {
			r.Map, r.Result.Jobs = a, jobs
			p.Map, p.Result.Jobs = a, jobs
			got := route.Heard(r, p)
			want := paperHeard(r, p).r
			if !sameWay(got, want) {
				t.Errorf("P21.3: %s, want %s", toldWay(got), toldWay(want))
			}
			spoil(got.Map.Spans, spoiltSpan)
			spoil(got.Result.Jobs, spoiltJob)
			if !sameMap(a, three()) || jobs[0] != jobOf("a") || jobs[1] != jobOf("b") {
				t.Fatalf("rule 5: %s, told %s", toldWay(r), toldReply(p))
			}
		}
	}
}
