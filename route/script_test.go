package route_test

import (
	"math"
	"math/rand"
	"slices"
	"sync"
	"testing"

	"matins/api"
	"matins/route"
)

func pick[T any](r *rand.Rand, all []T) T { return all[r.Intn(len(all))] }

// stock are the maps that scripts take from: empty, wrong and right ones.
var stock = sync.OnceValue(func() [3][]api.Atlas { return [3][]api.Atlas{noneMaps(), wrongMaps(), rightMaps()} })

func chanceMap(r *rand.Rand) api.Atlas { return pick(r, stock()[min(r.Intn(6), 2)]) }

func chanceName(r *rand.Rand) string {
	if r.Intn(3) == 0 {
		return pick(r, names)
	}
	return pick(r, []string{"a", "g", "h", "h-", "i", "j", "k", "n", "n03", "n04z", "o", "p", "q"})
}

// chanceReply is a reply; where a way asks for the map, mostly one that tells it nothing or a map, else mostly one that says where to ask, or an error.
func chanceReply(r *rand.Rand, way api.Route) api.Reply {
	p := api.Reply{Kind: r.Intn(4)}
	switch r.Intn(30) {
	case 0:
		p.Kind = pick(r, []int{-1, 4, 5, math.MaxInt, math.MinInt, 1<<32 + 2})
	case 1, 2, 3:
		p.Kind = api.NoReply
	}
	p.Hint = r.Intn(way.Nodes+4) - 1
	if r.Intn(20) == 0 {
		p.Hint = pick(r, []int{math.MaxInt, math.MinInt, 1<<32 + 1, 7, 8})
	}
	p.Map = chanceMap(r)
	p.Result = api.Result{Err: pick(r, []api.Errno{api.ErrShard, api.ErrEpoch, api.ErrFrozen})}
	switch r.Intn(10) {
	case 0:
		p.Result = resultOf(pick(r, errnos))
	case 1:
		p.Result = resultOf(api.Errno(r.Intn(250) - 2))
	}
	return p
}

// deed is what a reply did to a way.
type deed struct {
	kind            int
	fetch, endsThen bool
	fetchThen       bool
	node            string // which one is asked then
}

func deedOf(was, is api.Route, p api.Reply) deed {
	node := "other"
	switch {
	case is.Node == was.Node:
		node = "same"
	case is.Node == 1:
		node = "first"
	case is.Node == was.Node+1:
		node = "next"
	}
	return deed{min(max(p.Kind, -1), 4), was.Fetch, is.Done, is.Fetch, node}
}

// follow plays replies to a way till it is over, and a few more, and holds P21.4 along it.
func follow(t *testing.T, r *rand.Rand, way api.Route, done map[deed]int) {
	t.Helper()
	answers := []api.Result{way.Result} // of one that was over at first
	if !way.Done {
		answers = nil
	}
	left := way.Left
	for n := 0; !way.Done; n++ {
		if n == left {
			t.Fatalf("P21.4: not over behind %d replies: %s", n, toldWay(way))
		}
		x := where(t, way)
		if s := paperSpan(way.Map, way.Name); x.shard != 0 && (x.shard != s.Shard || x.group != s.Group || x.epoch != s.Epoch) || (x.shard == 0) != way.Fetch {
			t.Fatalf("P21.4: %s asks the shard %d", toldWay(way), x.shard)
		}
		p := chanceReply(r, way)
		answers = append(answers, p.Result)
		was := way
		way = heard(t, way, p)
		done[deedOf(was, way, p)]++
		wantCheck(t, way, true)
	}
	lost := sameResult(way.Result, api.Result{Err: api.ErrLost})
	if !lost && !slices.ContainsFunc(answers, func(a api.Result) bool { return sameResult(a, way.Result) }) {
		t.Errorf("P21.4: a Result from nowhere: %s", toldWay(way))
	}
	for range 2 {
		turns(t, way, chanceReply(r, way), way)
		asks(t, way, 0, 0, 0, 0)
	}
}

func TestScripts(t *testing.T) {
	done := map[deed]int{}
	for seed := range int64(6000) {
		r := rand.New(rand.NewSource(seed))
		x := begin(t, r.Intn(api.MaxNodes+2), chanceName(r), chanceMap(r), r.Intn(api.MaxTries+2))
		if x.err == api.OK {
			follow(t, r, x.r, done)
		}
		if t.Failed() {
			t.Fatalf("seed %d", seed)
		}
	}
	for _, d := range []deed{
		{api.Answered, false, true, false, "same"}, {api.Answered, false, false, true, "first"}, {api.Answered, false, false, true, "same"}, {api.Answered, false, true, false, "first"},
		{api.Answered, true, false, true, "next"}, {api.Answered, true, false, true, "first"},
		{api.Mapped, true, false, false, "first"}, {api.Mapped, true, false, false, "same"}, {api.Mapped, true, false, true, "next"}, {api.Mapped, false, false, false, "next"}, {api.Mapped, false, false, false, "first"},
		{api.Redirect, true, false, true, "next"}, {api.Redirect, true, false, true, "other"}, {api.Redirect, true, false, true, "first"}, {api.Redirect, false, false, false, "next"}, {api.Redirect, false, false, false, "other"}, {api.Redirect, false, true, false, "other"}, {api.Redirect, true, true, false, "other"},
		{api.NoReply, true, false, true, "next"}, {api.NoReply, false, false, false, "next"}, {api.NoReply, true, false, true, "first"}, {api.NoReply, false, false, false, "first"}, {api.NoReply, true, true, false, "next"}, {api.NoReply, false, true, false, "next"},
		{4, true, false, true, "next"}, {4, false, false, false, "next"}, {-1, true, false, true, "next"}, {-1, false, false, false, "next"},
	} {
		if done[d] < 20 {
			t.Errorf("%+v: met %d times, the scripts are too narrow", d, done[d])
		}
	}
}

// chanceWay is a way that no Begin may have made, mostly right.
func chanceWay(r *rand.Rand) api.Route {
	nodes := 1 + r.Intn(api.MaxNodes)
	way := api.Route{Nodes: nodes, Name: chanceName(r), Map: chanceMap(r), Fetch: r.Intn(2) == 0, Node: 1 + r.Intn(nodes), Left: 1 + r.Intn(6), Done: r.Intn(8) == 0}
	n := pick(r, []int{0, 1, 2, 7, 8, 64, 65, -1, math.MaxInt, math.MinInt, 1<<32 + 1})
	switch r.Intn(12) {
	case 0:
		way.Nodes = n
	case 1:
		way.Node = n
	case 2:
		way.Left = n
	case 3, 4:
		way.Name = pick(r, noNames)
	case 5, 6:
		way.Result = resultOf(pick(r, errnos))
	case 7:
		way.Map = api.Atlas{}
	}
	return way
}

func TestChanceWays(t *testing.T) {
	done := map[deed]int{}
	right, not := 0, 0
	for seed := range int64(30000) {
		r := rand.New(rand.NewSource(seed))
		way := chanceWay(r)
		wantCheck(t, way, paperCheck(way))
		if paperCheck(way) {
			right++
			follow(t, r, way, done)
		} else {
			not++
			asks(t, way, 0, 0, 0, 0)
			turns(t, way, chanceReply(r, api.Route{Nodes: 5}), way)
		}
		if t.Failed() {
			t.Fatalf("seed %d", seed)
		}
	}
	if right < 9000 || not < 5000 {
		t.Errorf("%d are right, %d not", right, not)
	}
}

// All calls may be made by many at one time: they write nothing that is handed in.
func TestAtOneTime(t *testing.T) {
	r, p := refetching(), api.Reply{Kind: api.Mapped, Map: other(), Result: resultOf(api.OK)}
	want, begun := paperHeard(r, p).r, paperBegin(5, "k", r.Map, 9).r
	var group sync.WaitGroup
	for range 8 {
		group.Go(func() {
			for range 200 {
				b, _ := route.Begin(5, "k", r.Map, 9)
				h := route.Heard(r, p)
				_, node, _, _ := route.Where(r)
				if !route.Check(r) || node != 3 || !sameWay(h, want) || !sameWay(b, begun) {
					t.Error("rule 6: an answer hangs on other calls")
					return
				}
				spoil(h.Map.Spans, spoiltSpan)
				spoil(b.Map.Spans, spoiltSpan)
			}
		})
	}
	group.Wait()
}
