package mover_test

import (
	"fmt"
	"testing"

	"matins/api"
	"matins/atlas"
)

// small is a world of two groups with two spans, jobs and a session in each.
func small() world {
	a := api.Atlas{Groups: 2, Last: 2, Spans: []api.Span{spanOf("", "k", 1, 6, 1), spanOf("k", "", 2, 4, 1)}}
	books := [][]api.Seen{{seen(1, 3), seen(2, 1)}, {seen(1, 2, jobOf("m")), seen(2, 5)}}
	low, up := served(1, 6, "", "k", books[0], "b", "d"), served(2, 4, "k", "", books[1], "m")
	return world{a: a, groups: [][]api.Shard{nil, {low, up}, nil}, books: books}
}

// smallCramped is a small world without room in group 1 for a new number.
func smallCramped() world {
	w := small()
	for id := 1000; len(w.groups[1]) < api.MaxGone; id++ {
		w.groups[1] = append(w.groups[1], api.Shard{Id: id, Epoch: 3, State: api.Gone})
	}
	return w
}

// plans are all plans of two groups that may begin.
func (w world) plans() []api.Plan {
	var all []api.Plan
	for i, s := range w.a.Spans {
		key := "d"
		if s.From != "" {
			key = s.From + "-"
		}
		all = append(all, api.Plan{Kind: api.PlanMove, Shard: s.Shard, Group: 3 - s.Group}, api.Plan{Kind: api.PlanSplit, Shard: s.Shard, Key: key})
		if i+1 < len(w.a.Spans) && w.a.Spans[i+1].Group == s.Group {
			all = append(all, api.Plan{Kind: api.PlanMerge, Shard: s.Shard})
		}
	}
	return all
}

// turns are all worlds that one thing that may happen makes of one.
func (w world) turns(t *testing.T) []world {
	var all []world
	add := func(do func(*world)) {
		next := w.copied()
		do(&next)
		all = append(all, next)
	}
	for _, l := range w.sent { // an order that went out comes, early or late, once more or for the first time
		add(func(x *world) { x.arrive(l) })
	}
	if w.planned() {
		add(func(x *world) { x.write(t) }) // it is lost, or late
		add(func(x *world) {
			got := x.arrive(x.write(t))
			x.reply = &got
		})
		add(func(x *world) { x.forget() })
	}
	if w.reply != nil {
		add(func(x *world) { x.hear(*w.reply) })
	}
	for _, done := range w.may { // what was heard comes to the map, soon or late
		add(func(x *world) { x.settle(t, done) })
		add(func(x *world) {
			x.settle(t, done)
			x.forget()
		})
	}
	if w.mayEnd() {
		add(func(x *world) { x.settle(t, -1) })
	}
	return all
}

// looks holds P20.3 of a world: without a plan it fits; from another one the plan still ends, once nothing is lost, and then it fits.
func (w world) looks(t *testing.T) {
	w.safe(t)
	w = w.copied()
	w.finish(t)
	all := w.fits(t)
	hasOnly(t, all, []api.Job{jobOf("b"), jobOf("d"), jobOf("m")})
	wantBooks(t, all, w.books...)
	if t.Failed() {
		t.Fatalf("P20.3: %s, has %s, %s", toldMap(w.a), toldShard(w.have), w.told())
	}
}

// every goes through all worlds that can come of one, whatever is lost, late, sent again or given up, with so many plans that begin in it one behind the other. It counts them, and, by their kind and phase, the plans in them.
func every(t *testing.T, w world, plans int) (int, map[stage]int) {
	t.Helper()
	type place struct {
		w    world
		left int
	}
	var list []place
	met, found := map[string]bool{}, map[stage]int{}
	reach := func(w world, left int) {
		key := fmt.Sprint(left) + w.key()
		if !met[key] {
			met[key] = true
			list = append(list, place{w, left})
		}
	}
	for reach(w, plans); len(list) > 0; {
		p := list[len(list)-1]
		list = list[:len(list)-1]
		p.w.looks(t)
		found[stage{p.w.a.Plan.Kind, p.w.a.Plan.Phase}]++
		for _, x := range p.w.turns(t) {
			reach(x, p.left)
		}
		if p.w.planned() || p.left == 0 {
			continue
		}
		for _, plan := range p.w.plans() {
			if _, err := atlas.Begin(p.w.a, plan); err == api.OK {
				reach(p.w.begun(t, plan), p.left-1)
			}
		}
	}
	return len(met), found
}

func TestEvery(t *testing.T) {
	for _, r := range []struct {
		w     world
		plans int
		met   int // how many worlds there are at least
		kinds []stage
	}{
		{small(), 2, 3000, []stage{{1, 1}, {1, 2}, {1, 3}, {1, 9}, {2, 1}, {3, 1}}},
		{smallCramped(), 1, 300, []stage{{1, 1}, {1, 2}, {1, 3}, {1, 9}, {2, 1}, {2, 9}, {3, 1}}},
	} {
		n, found := every(t, r.w, r.plans)
		if n < r.met {
			t.Errorf("%d worlds are too few", n)
		}
		for _, s := range append(r.kinds, stage{}) {
			if found[s] < 5 {
				t.Errorf("plans of the kind %d in the phase %d: %d times, the worlds are too few", s.kind, s.phase, found[s])
			}
		}
	}
}
