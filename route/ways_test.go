package route_test

import (
	"fmt"
	"math"
	"slices"
	"strings"

	"matins/api"
)

const top = 1 << 40 // the last Epoch, and the last Shard

// names are right ones; noNames are texts that are none.
var (
	names   = []string{"-", ".", "0", "9", "a", "z", "k", "a.b-c", "0123456789abcdef", strings.Repeat("z", api.MaxName)}
	noNames = []string{"", "A", " ", "a b", "ä", "n\x00", "n_", "n\n", "\xff", "nM", "n/", "n`", "n{", "n:", "n,", strings.Repeat("n", api.MaxName+1), strings.Repeat("n", api.MaxText)}
)

// errnos are all of DOC.md.
var errnos = []api.Errno{0, 1, 2, 3, 4, 20, 21, 22, 30, 40, 50, 51, 60, 80, 150, 151, 160, 170, 171, 172, 173, 180, 181, 240}

func spanOf(from, to string, shard int, epoch int64, group int) api.Span {
	return api.Span{From: from, To: to, Shard: shard, Epoch: epoch, Group: group}
}

// three is a map of three spans, without a plan; the second and the third are of one group.
func three() api.Atlas {
	return api.Atlas{Groups: 4, Last: 9, Spans: []api.Span{spanOf("", "h", 4, 10, 1), spanOf("h", "p", 2, 20, 2), spanOf("p", "", 7, 5, 2)}}
}

// other is a map of the same groups, later on.
func other() api.Atlas {
	return api.Atlas{Groups: 4, Last: 10, Spans: []api.Span{spanOf("", "j", 4, 12, 3), spanOf("j", "", 10, 31, 4)}}
}

// many is a map of so many spans, of three groups in turn, whose Shards fall and whose Epochs rise.
func many(n int) api.Atlas {
	a := api.Atlas{Groups: 3, Last: n + 5}
	from := ""
	for i := range n {
		to := fmt.Sprintf("n%02d", i)
		if i == n-1 {
			to = ""
		}
		a.Spans = append(a.Spans, spanOf(from, to, n+1-i, int64(1+i), 1+i%3))
		from = to
	}
	return a
}

func at(i int, set func(*api.Span)) api.Atlas {
	a := three()
	set(&a.Spans[i])
	return a
}

func with(set func(*api.Atlas)) api.Atlas {
	a := three()
	set(&a)
	return a
}

func planned(p api.Plan) api.Atlas { return with(func(a *api.Atlas) { a.Plan = p }) }

// Plans that may be under way in the map of three spans, in each of their phases.
var (
	moving   = api.Plan{Kind: api.PlanMove, Phase: 1, Shard: 2, Group: 3, Past: 2, Epoch: 20}
	moved    = api.Plan{Kind: api.PlanMove, Phase: 2, Shard: 2, Group: 2, Past: 3, Epoch: 19}
	opened   = api.Plan{Kind: api.PlanMove, Phase: 3, Shard: 2, Group: 2, Past: 3, Epoch: 19}
	unmoved  = api.Plan{Kind: api.PlanMove, Phase: 9, Shard: 2, Group: 3, Past: 2, Epoch: 18}
	parting  = api.Plan{Kind: api.PlanSplit, Phase: 1, Shard: 2, Other: 9, Group: 2, Epoch: 20, Key: "m"}
	unparted = api.Plan{Kind: api.PlanSplit, Phase: 9, Shard: 2, Other: 9, Group: 2, Epoch: 18, Key: "m"}
	joining  = api.Plan{Kind: api.PlanMerge, Phase: 1, Shard: 2, Other: 7, Group: 2, Epoch: 20}
	unjoined = api.Plan{Kind: api.PlanMerge, Phase: 9, Shard: 2, Other: 7, Group: 2, Epoch: 18}
)

func rightMaps() []api.Atlas {
	all := []api.Atlas{three(), other(), many(1), many(2), many(api.MaxShards), {Groups: 1, Last: 1, Spans: []api.Span{spanOf("", "", 1, 1, 1)}}, {Groups: api.MaxGroups, Last: top, Spans: []api.Span{spanOf("", "", top, top, api.MaxGroups)}}}
	for _, p := range []api.Plan{moving, moved, opened, unmoved, parting, unparted, joining, unjoined} {
		all = append(all, planned(p))
	}
	return all
}

// noneMaps are empty ones, by the chapter's words: without Groups, and without spans.
func noneMaps() []api.Atlas {
	return []api.Atlas{{}, {Spans: []api.Span{}}, {Last: 1}, {Last: -1}, {Last: top + 1, Spans: []api.Span{}}, {Plan: moving}, {Plan: api.Plan{Kind: -5, Key: "K"}}, {Last: 9, Plan: joining}}
}

// wrongMaps are neither empty nor right, each for its own reason.
func wrongMaps() []api.Atlas {
	all := []api.Atlas{
		{Groups: 1}, {Groups: 4, Last: 9, Spans: []api.Span{}}, {Groups: -1}, {Groups: 9}, {Groups: math.MinInt},
		{Spans: []api.Span{spanOf("", "", 1, 1, 1)}}, {Last: 1, Spans: []api.Span{spanOf("", "", 1, 1, 1)}}, {Last: 1, Spans: []api.Span{spanOf("", "", 1, 1, 0)}}, {Spans: []api.Span{{}}},
		many(api.MaxShards + 1), many(40),
		with(func(a *api.Atlas) { a.Groups = 0 }), with(func(a *api.Atlas) { a.Groups = -1 }), with(func(a *api.Atlas) { a.Groups = 1 }), with(func(a *api.Atlas) { a.Groups = api.MaxGroups + 1 }),
		with(func(a *api.Atlas) { a.Last = 6 }), with(func(a *api.Atlas) { a.Last = top + 1 }), with(func(a *api.Atlas) { a.Last = 0 }),
		with(func(a *api.Atlas) { a.Spans = a.Spans[1:] }), with(func(a *api.Atlas) { a.Spans = a.Spans[:2] }), with(func(a *api.Atlas) { a.Spans = slices.Delete(a.Spans, 1, 2) }),
		at(0, func(s *api.Span) { s.From = "a" }), at(0, func(s *api.Span) { s.To = "g" }), at(0, func(s *api.Span) { s.To = "" }), at(1, func(s *api.Span) { s.From = "i" }), at(2, func(s *api.Span) { s.To = "z" }), at(2, func(s *api.Span) { s.To = "A" }),
		with(func(a *api.Atlas) { a.Spans[0].To, a.Spans[1].From = "H", "H" }), with(func(a *api.Atlas) { a.Spans[1].To, a.Spans[2].From = "h", "h" }), with(func(a *api.Atlas) { a.Spans[1].To, a.Spans[2].From = "b", "b" }),
	}
	for i := range 3 {
		for _, n := range []int{0, -1, 10, math.MaxInt, 1<<32 + 1} {
			all = append(all, at(i, func(s *api.Span) { s.Shard = n }))
		}
		for _, n := range []int64{0, -1, top + 1, math.MaxInt64, math.MinInt64} {
			all = append(all, at(i, func(s *api.Span) { s.Epoch = n }))
		}
		for _, n := range []int{0, -1, 5, math.MaxInt, 1<<32 + 1} {
			all = append(all, at(i, func(s *api.Span) { s.Group = n }))
		}
		all = append(all, at(i, func(s *api.Span) { s.Shard = three().Spans[(i+1)%3].Shard }))
	}
	return append(all, wrongPlans()...)
}

// wrongPlans are maps whose plan alone isn't right.
func wrongPlans() []api.Atlas {
	all := []api.Atlas{planned(api.Plan{Kind: 4, Phase: 1, Shard: 2, Group: 2, Epoch: 20}), planned(api.Plan{Kind: -1})}
	for _, p := range []api.Plan{moving, moved, opened, unmoved, parting, unparted, joining, unjoined} {
		for _, set := range []func(*api.Plan){
			func(p *api.Plan) { p.Kind = 4 }, func(p *api.Plan) { p.Phase = 0 }, func(p *api.Plan) { p.Phase = 4 }, func(p *api.Plan) { p.Shard = 3 }, func(p *api.Plan) { p.Other++ },
			func(p *api.Plan) { p.Group = 0 }, func(p *api.Plan) { p.Past = p.Group }, func(p *api.Plan) { p.Epoch++ }, func(p *api.Plan) { p.Key = "M" },
		} {
			q := p
			set(&q)
			all = append(all, planned(q))
		}
	}
	return all
}

func jobOf(name string) api.Job {
	return api.Job{Name: name, Expr: "0 0 * * *", Zone: "utc", Token: "tok-" + name, Client: 1 + len(name), Seq: 7, Mark: 100}
}

// resultOf is a Result with an error, and with all else that a Result may have.
func resultOf(err api.Errno) api.Result {
	return api.Result{Err: err, Time: 77, Jobs: []api.Job{jobOf("told"), jobOf("too")}}
}

// asking is a way that asks the group of its name; fetching one that asks for the map, and knows none; refetching one that asks for it once more.
func asking() api.Route {
	return api.Route{Nodes: 5, Name: "k", Map: three(), Node: 3, Left: 9}
}

func fetching() api.Route {
	return api.Route{Nodes: 5, Name: "k", Fetch: true, Node: 3, Left: 9}
}

func refetching() api.Route {
	return api.Route{Nodes: 5, Name: "k", Map: three(), Fetch: true, Node: 3, Left: 9}
}

// nameless is a way whose name is none, so that it asks for the map for ever.
func nameless() api.Route {
	return api.Route{Nodes: 5, Name: "K", Map: three(), Fetch: true, Node: 3, Left: 9}
}

func over() api.Route {
	return api.Route{Nodes: 5, Name: "k", Map: three(), Node: 3, Left: 9, Done: true, Result: resultOf(api.ErrMiss)}
}

func lost() api.Route {
	return api.Route{Nodes: 5, Name: "k", Map: three(), Node: 3, Done: true, Result: api.Result{Err: api.ErrLost}}
}

// altered is a way with something set.
func altered(r api.Route, set func(*api.Route)) api.Route {
	set(&r)
	return r
}
