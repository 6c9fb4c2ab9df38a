package mover_test

import (
	"fmt"
	"slices"
	"testing"

	"matins/api"
	"matins/atlas"
	"matins/shard"
)

// drive is a plan of a world, and what its spans and sessions are where it is done, and where it was given up.
type drive struct {
	name    string
	w       world
	p       api.Plan
	done    []api.Span
	books   [][]api.Seen
	undone  []api.Span
	kept    [][]api.Seen
	givesUp bool // for want of room
}

// late is the world of two groups with a greater Epoch of the last span.
func late() world {
	w := twoGroups()
	w.a.Spans[2].Epoch = 50
	w.groups[2] = []api.Shard{w.groups[2][0], w.groups[2][1]}
	w.groups[2][1].Epoch = 50
	return w
}

// cramped is the world of two groups with no room in group 2 for a new number.
func cramped() world {
	w := twoGroups()
	for id := 1000; len(w.groups[2]) < api.MaxGone; id++ {
		w.groups[2] = append(w.groups[2], api.Shard{Id: id, Epoch: 3, State: api.Gone})
	}
	return w
}

// back is the world of two groups where the shard 2 was in group 1 once.
func back() world {
	w := twoGroups()
	w.groups[1] = append([]api.Shard{{Id: 2, Epoch: 17, State: api.Gone, From: "b", To: "z"}}, w.groups[1]...)
	return w
}

// ahead is the world of two groups where group 1 remembers the shard 2 by a greater Epoch than it has.
func ahead() world {
	w := twoGroups()
	w.groups[1] = append([]api.Shard{{Id: 2, Epoch: 21, State: api.Gone}}, w.groups[1]...)
	return w
}

func drives() []drive {
	w := twoGroups()
	low, mid, up := w.groups[1][0].Seen, w.groups[2][0].Seen, w.groups[2][1].Seen
	one := w.a.Spans[0]
	kept := [][]api.Seen{low, mid, up}
	joined := [][]api.Seen{low, {seen(1, 5), seen(2, 2, jobOf("q")), seen(3, 9)}}
	parted := [][]api.Seen{low, mid, mid, up}
	move := api.Plan{Kind: api.PlanMove, Shard: 2, Group: 1}
	merge := api.Plan{Kind: api.PlanMerge, Shard: 2}
	moved := []api.Span{one, spanOf("h", "p", 2, 21, 1), spanOf("p", "", 7, 5, 2)}
	unmoved := []api.Span{one, spanOf("h", "p", 2, 22, 2), spanOf("p", "", 7, 5, 2)}
	return []drive{
		{"a move", w, move, moved, kept, unmoved, kept, false},
		{"a move back", back(), move, moved, kept, unmoved, kept, false},
		{"a move that is refused", ahead(), move, nil, nil, unmoved, kept, true},
		{"a move of the first span", w, api.Plan{Kind: api.PlanMove, Shard: 4, Group: 2}, []api.Span{spanOf("", "h", 4, 11, 2), w.a.Spans[1], w.a.Spans[2]}, kept, []api.Span{spanOf("", "h", 4, 12, 1), w.a.Spans[1], w.a.Spans[2]}, kept, false},
		{"a split", w, api.Plan{Kind: api.PlanSplit, Shard: 2, Key: "m"}, []api.Span{one, spanOf("h", "m", 2, 21, 2), spanOf("m", "p", 10, 21, 2), spanOf("p", "", 7, 5, 2)}, parted, nil, nil, false},
		{"a split without room", cramped(), api.Plan{Kind: api.PlanSplit, Shard: 2, Key: "m"}, nil, nil, unmoved, kept, true},
		{"a merge", w, merge, []api.Span{one, spanOf("h", "", 2, 21, 2)}, joined, nil, nil, false},
		{"a merge with a greater epoch", late(), merge, []api.Span{one, spanOf("h", "", 2, 51, 2)}, joined, nil, nil, false},
	}
}

// ends holds P20.3 at the end of a drive's plan.
func (d drive) ends(t *testing.T, w world, undone bool) {
	t.Helper()
	spans, books := d.done, d.books
	if undone {
		spans, books = d.undone, d.kept
	}
	if w.planned() || !slices.Equal(w.a.Spans, spans) {
		t.Errorf("P20.3: the map is %s, want %v", toldMap(w.a), spans)
	}
	all := w.fits(t)
	hasOnly(t, all, allJobs())
	wantBooks(t, all, books...)
	for turn := range 2 { // orders of long ago, in their order and from the back
		for i := range w.sent {
			if turn == 1 {
				i = len(w.sent) - 1 - i
			}
			was := w.told()
			w.arrive(w.sent[i])
			if w.told() != was {
				t.Errorf("P20.3: %s of long ago changes %s\nto %s", toldOrder(w.sent[i].order), was, w.told())
			}
		}
	}
	all = w.fits(t)
	hasOnly(t, all, allJobs())
	wantBooks(t, all, books...)
}

// mischief is what is done to a step on the way.
type mischief struct {
	name string
	do   func(t *testing.T, w *world)
}

func mischiefs() []mischief {
	return []mischief{
		{"none", func(t *testing.T, w *world) { w.step(t) }},
		{"the order is lost", func(t *testing.T, w *world) { w.write(t) }},
		{"the answer is lost", func(t *testing.T, w *world) { w.arrive(w.write(t)) }},
		{"the order comes twice, the first answer is heard", func(t *testing.T, w *world) {
			l := w.write(t)
			first := w.arrive(l)
			w.arrive(l)
			w.told2(t, first)
		}},
		{"the order comes twice, the second answer is heard", func(t *testing.T, w *world) {
			l := w.write(t)
			w.arrive(l)
			w.told2(t, w.arrive(l))
		}},
		{"what it has is lost ahead", func(t *testing.T, w *world) {
			w.forget()
			w.step(t)
		}},
		{"what it has is lost behind", func(t *testing.T, w *world) {
			w.step(t)
			w.forget()
		}},
		{"it is lost ahead of the map", func(t *testing.T, w *world) {
			w.hear(w.arrive(w.write(t)))
			w.forget()
			w.may = nil
		}},
		{"orders of long ago come", func(t *testing.T, w *world) {
			w.step(t)
			for _, l := range w.sent {
				w.arrive(l)
			}
		}},
		{"orders of long ago come ahead of the answer", func(t *testing.T, w *world) {
			got := w.arrive(w.write(t))
			for _, l := range slices.Backward(w.sent) {
				w.arrive(l)
			}
			w.told2(t, got)
		}},
		{"it is given up", giveUp},
		{"it is given up behind the order", func(t *testing.T, w *world) {
			w.arrive(w.write(t))
			giveUp(t, w)
		}},
		{"it is given up behind the answer", func(t *testing.T, w *world) {
			w.hear(w.arrive(w.write(t)))
			giveUp(t, w)
		}},
		{"it is given up, and what it has is lost", func(t *testing.T, w *world) {
			giveUp(t, w)
			w.forget()
		}},
	}
}

// told2 is an answer that is heard, and the map behind it.
func (w *world) told2(t *testing.T, got reply) {
	t.Helper()
	w.hear(got)
	if len(w.may) > 0 {
		w.settle(t, w.may[0])
	}
}

// mayEnd tells whether a plan may be given up: a move in its phase 1.
func (w world) mayEnd() bool { return w.a.Plan.Kind == api.PlanMove && w.a.Plan.Phase == 1 }

func giveUp(t *testing.T, w *world) {
	t.Helper()
	if w.mayEnd() {
		w.settle(t, -1)
	}
}

// driven is a drive to its end, with mischiefs at two of its steps. It tells how many steps there were.
func (d drive) driven(t *testing.T, first, second mischief, at, then int) int {
	w := d.w.begun(t, d.p)
	undone := false
	n := 0
	for ; w.planned(); n++ {
		if n == 24 {
			t.Fatalf("P20.3: the plan doesn't end: %s, has %s, %s", toldMap(w.a), toldShard(w.have), w.told())
		}
		do := mischiefs()[0].do
		switch n {
		case at:
			do = first.do
		case then:
			do = second.do
		}
		do(t, &w)
		w.safe(t)
		undone = undone || w.a.Plan.Phase == 9
	}
	if d.givesUp != undone && !(d.p.Kind == api.PlanMove && undone) {
		t.Errorf("P20.3: given up: %t", undone)
	}
	d.ends(t, w, undone)
	return n
}

func TestDrives(t *testing.T) {
	for _, d := range drives() {
		for _, first := range mischiefs() {
			at, steps := 0, 1
			for ; at < steps; at++ {
				for _, second := range mischiefs() {
					steps = at + 2
					for then := at + 1; then < steps; then++ {
						steps = d.driven(t, first, second, at, then)
						if t.Failed() {
							t.Fatalf("%s; %s at the step %d, %s at the step %d", d.name, first.name, at, second.name, then)
						}
					}
				}
				steps = d.driven(t, first, mischiefs()[0], at, -1)
			}
		}
	}
}

// Which orders go out, one behind the other, where nothing is lost.
func TestDriveOrders(t *testing.T) {
	frozen := twoGroups().groups[2][0]
	frozen.State = api.Frozen
	for _, r := range []struct {
		name   string
		givers int // behind how many steps it is given up; -1: never
		want   []letter
	}{
		{"a move", -1, []letter{{2, freeze(2, 20)}, {1, install(held(frozen, 21))}, {1, open(2, 21)}, {2, retire(2, 20)}}},
		{"a move", 0, []letter{{2, freeze(2, 20)}, {1, retire(2, 21)}, {2, thaw(2, 20, 22)}}},
		{"a move", 1, []letter{{2, freeze(2, 20)}, {1, retire(2, 21)}, {2, thaw(2, 20, 22)}}},
		{"a move that is refused", -1, []letter{{2, freeze(2, 20)}, {1, install(held(frozen, 21))}, {1, retire(2, 21)}, {2, thaw(2, 20, 22)}}},
		{"a split", -1, []letter{{2, split(2, 20, 10, 21, "m")}}},
		{"a split without room", -1, []letter{{2, split(2, 20, 10, 21, "m")}, {2, freeze(2, 20)}, {2, thaw(2, 20, 22)}}},
		{"a merge", -1, []letter{{2, merge(2, 20, 7, 21, 5)}}},
		{"a merge with a greater epoch", -1, []letter{{2, merge(2, 20, 7, 51, 50)}}},
	} {
		for _, d := range drives() {
			if d.name != r.name {
				continue
			}
			w := d.w.begun(t, d.p)
			for n := 0; w.planned(); n++ {
				if n == r.givers {
					giveUp(t, &w)
				}
				w.step(t)
			}
			if !slices.EqualFunc(w.sent, r.want, letter.same) {
				t.Errorf("P20.1: %s, given up behind %d: %v, want %v", r.name, r.givers, w.sent, r.want)
			}
		}
	}
}

// Where a group has no room to remember one more shard, an install is refused, and so is the retire that undoes it: nothing means anything then, and the shard stays whole where it was.
func TestDriveNoRoom(t *testing.T) {
	w := twoGroups()
	for id := 1000; len(w.groups[1]) < api.MaxGone; id++ {
		w.groups[1] = append(w.groups[1], api.Shard{Id: id, Epoch: 3, State: api.Gone})
	}
	w = w.begun(t, api.Plan{Kind: api.PlanMove, Shard: 2, Group: 1})
	w.step(t)
	w.step(t)
	if w.a.Plan.Phase != 9 || len(w.have.Jobs) != 2 {
		t.Fatalf("P20.2: %s, has %s", toldMap(w.a), toldShard(w.have))
	}
	for range 5 {
		got := w.arrive(w.write(t))
		if got.r.Err != api.ErrFull {
			t.Fatalf("P18.1: %d", got.r.Err)
		}
		means(t, w.a, w.have, got.r, got.s, w.have, 0)
		w.hear(got)
	}
	w.safe(t)
	frozen := twoGroups().groups[2][0]
	frozen.State = api.Frozen
	if !sameShard(w.groups[2][0], frozen) || !sameShard(w.have, frozen) {
		t.Errorf("P20.3: %s, has %s", w.told(), toldShard(w.have))
	}
}

// A merge of too many jobs waits till there is room.
func TestDriveBigMerge(t *testing.T) {
	w := twoGroups()
	full := slices.Clone(w.groups[2])
	full[1].Jobs = nil
	for i := range api.MaxJobs - 1 {
		full[1].Jobs = append(full[1].Jobs, jobOf(fmt.Sprintf("p%03d", i)))
	}
	w.groups[2] = full
	w = w.begun(t, api.Plan{Kind: api.PlanMerge, Shard: 2})
	for range 4 {
		w.step(t)
		if w.a.Plan.Phase != 1 || !sameShard(w.groups[2][1], full[1]) || !sameShard(w.groups[2][0], full[0]) {
			t.Fatalf("P20.2: %s, %s", toldMap(w.a), w.told())
		}
	}
	list, r, _ := shard.Do(w.groups[2], api.Order{Kind: api.OrdCmd, Shard: 2, Epoch: 20, Cmd: api.Cmd{Kind: api.CmdRemove, Client: 7, Seq: 1, Name: "k"}})
	if r.Err != api.OK {
		t.Fatal(r.Err)
	}
	w.groups[2] = list
	w.step(t)
	if w.planned() || len(w.fits(t)[1].Jobs) != api.MaxJobs {
		t.Errorf("P20.3: %s, %s", toldMap(w.a), w.told())
	}
}

// Plans behind each other, with all orders of long ago behind each step.
func TestDriveChain(t *testing.T) {
	w := twoGroups()
	merge, split := api.Plan{Kind: api.PlanMerge, Shard: 2}, api.Plan{Kind: api.PlanSplit, Shard: 2, Key: "p"}
	there, home := api.Plan{Kind: api.PlanMove, Shard: 2, Group: 1}, api.Plan{Kind: api.PlanMove, Shard: 2, Group: 2}
	for i, p := range []api.Plan{there, home, there, home, merge, split, merge, there, split, home, there, merge, home, split, there} {
		if p.Kind == api.PlanMerge && w.a.Spans[1].Group != w.a.Spans[2].Group {
			p = api.Plan{Kind: api.PlanMove, Shard: w.a.Spans[2].Shard, Group: w.a.Spans[1].Group}
		}
		if p.Group == w.a.Spans[1].Group && p.Kind == api.PlanMove && p.Shard == 2 {
			continue
		}
		w = w.begun(t, p)
		for n := 0; w.planned(); n++ {
			if n > 30 {
				t.Fatalf("P20.3: the plan doesn't end: %s", toldMap(w.a))
			}
			if i%3 == 1 && n == 1 {
				giveUp(t, &w)
			}
			w.step(t)
			for _, l := range w.sent {
				w.arrive(l)
				w.safe(t)
			}
		}
		hasOnly(t, w.fits(t), allJobs())
	}
	if !atlas.Check(w.a) || w.a.Spans[1].Epoch < 30 || len(w.sent) < 25 {
		t.Errorf("%s, %d orders: the plans are too few", toldMap(w.a), len(w.sent))
	}
}
