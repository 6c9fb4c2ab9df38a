package route_test

import (
	"math/rand"
	"testing"

	"matins/api"
	"matins/atlas"
)

// world is what a way goes through: groups with leaders (0: none is known), and the map as group 0 has it.
type world struct {
	nodes   int
	leaders []int
	a       api.Atlas
	hints   bool
}

func newWorld(r *rand.Rand) world {
	w := world{nodes: 1 + r.Intn(api.MaxNodes), leaders: make([]int, 4), hints: r.Intn(2) == 0}
	w.a, _ = atlas.New(3)
	for g := range w.leaders {
		w.leaders[g] = 1 + r.Intn(w.nodes)
	}
	return w
}

// change lets the map go on by a step, or another node lead.
func (w *world) change(r *rand.Rand) {
	if r.Intn(3) == 0 {
		w.leaders[r.Intn(4)] = r.Intn(w.nodes + 1)
	}
	if w.a.Plan.Kind != api.PlanNone {
		w.a, _ = atlas.Advance(w.a, w.a.Plan.Phase)
		return
	}
	p := api.Plan{Kind: 1 + r.Intn(3), Shard: pick(r, w.a.Spans).Shard, Group: 1 + r.Intn(3), Key: pick(r, []string{"c", "f", "k", "p", "t"})}
	if a, err := atlas.Begin(w.a, p); err == api.OK {
		w.a = a
	}
}

// calm brings the plan to its end, and has each group led.
func (w *world) calm() {
	for w.a.Plan.Kind != api.PlanNone {
		w.a, _ = atlas.Advance(w.a, w.a.Plan.Phase)
	}
	for g, leader := range w.leaders {
		w.leaders[g] = max(leader, 1)
	}
}

// reply is what the node that is asked tells.
func (w *world) reply(x answer, name string) api.Reply {
	if leader := w.leaders[x.group]; leader != x.node {
		if !w.hints {
			leader = 0
		}
		return api.Reply{Kind: api.Redirect, Hint: leader}
	}
	if x.group == 0 {
		return api.Reply{Kind: api.Mapped, Map: w.a}
	}
	return api.Reply{Kind: api.Answered, Result: w.result(x, name)}
}

func (w *world) result(x answer, name string) api.Result {
	s := paperSpan(w.a, name)
	switch {
	case s.Group != x.group || s.Shard != x.shard:
		return api.Result{Err: api.ErrShard}
	case w.a.Plan.Kind == api.PlanMove && w.a.Plan.Shard == x.shard && w.a.Plan.Phase < 3:
		return api.Result{Err: api.ErrFrozen}
	case s.Epoch != x.epoch:
		return api.Result{Err: api.ErrEpoch}
	}
	return api.Result{Time: s.Epoch, Jobs: []api.Job{jobOf(name)}}
}

// ask plays one asking. What is answered is right where it is answered.
func (w *world) ask(t *testing.T, r *rand.Rand, way api.Route, lossy bool) api.Route {
	t.Helper()
	p := w.reply(where(t, way), way.Name)
	if lossy && r.Intn(4) == 0 {
		p = api.Reply{}
	}
	way = heard(t, way, p)
	if s := paperSpan(w.a, way.Name); way.Done && way.Result.Err == api.OK && (way.Result.Time != s.Epoch || way.Result.Jobs[0] != jobOf(way.Name)) {
		t.Errorf("P21.2: answered by another shard: %s", toldWay(way))
	}
	return way
}

// Once nothing is lost any more, a way is at its answer soon: behind what it takes to find a group's leader by going round, three times.
func TestWorld(t *testing.T) {
	answered, gaveUp, inTime := 0, 0, 0
	for seed := range int64(4000) {
		r := rand.New(rand.NewSource(seed))
		w := newWorld(r)
		known := api.Atlas{}
		for range 6 {
			way := begin(t, w.nodes, pick(r, []string{"a", "c", "e", "h", "k", "r", "t", "z"}), known, 1+r.Intn(api.MaxTries)).r
			for range r.Intn(12) {
				w.change(r)
				if !way.Done {
					way = w.ask(t, r, way, true)
				}
			}
			w.calm()
			bound := 3 * w.nodes
			if w.hints {
				bound = min(bound, 6)
			}
			bound = min(bound, way.Left)
			enough := way.Left >= 3*w.nodes
			for n := 0; !way.Done; n++ {
				if n == bound {
					t.Fatalf("seed %d: not over behind %d askings: %s", seed, n, toldWay(way))
				}
				way = w.ask(t, r, way, false)
			}
			switch {
			case way.Result.Err == api.OK:
				answered++
			case enough || way.Result.Err != api.ErrLost:
				t.Errorf("seed %d: %s", seed, toldWay(way))
			default:
				gaveUp++
			}
			if enough {
				inTime++
			}
			known = way.Map
			if t.Failed() {
				t.Fatalf("seed %d", seed)
			}
		}
	}
	if answered < 9000 || gaveUp < 500 || inTime < 9000 {
		t.Errorf("%d answered, %d given up, %d with time enough", answered, gaveUp, inTime)
	}
}
