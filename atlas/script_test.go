package atlas_test

import (
	"math"
	"math/rand"
	"slices"
	"sync"
	"testing"

	"matins/api"
	"matins/atlas"
)

func pick[T any](r *rand.Rand, all []T) T { return all[r.Intn(len(all))] }

var keys = []string{"-", "a", "b", "bb", "c", "d", "f", "h", "h-", "k", "l", "m", "n", "p", "q", "t", "z"}

// chanceKey is mostly a name at which a span may be parted.
func chanceKey(r *rand.Rand, s api.Span) string {
	if r.Intn(8) == 0 {
		return pick(r, []string{"", s.From, s.To, "A", "b_", "zzzzzzzzzzzzzzzzz", pick(r, keys)})
	}
	in := slices.DeleteFunc(slices.Clone(keys), func(key string) bool { return !paperIn(s, key) || key == s.From })
	if len(in) == 0 {
		return pick(r, keys)
	}
	return pick(r, in)
}

// chancePlan is what is asked of a map: mostly what may begin there, with fields that aren't asked.
func chancePlan(r *rand.Rand, a api.Atlas) api.Plan {
	s := pick(r, a.Spans)
	p := api.Plan{Kind: 1 + r.Intn(3), Shard: s.Shard, Group: 1 + r.Intn(a.Groups), Key: chanceKey(r, s)}
	if r.Intn(4) == 0 {
		p.Phase, p.Other, p.Past, p.Epoch = r.Intn(10), r.Intn(5), r.Intn(5), r.Int63n(9)
	}
	switch r.Intn(25) {
	case 0:
		p.Kind = pick(r, []int{0, 4, -1, math.MaxInt})
	case 1:
		p.Shard = pick(r, []int{0, -1, a.Last + 1, 1 + r.Intn(min(a.Last, 40)), math.MinInt})
	case 2:
		p.Group = pick(r, []int{0, -1, a.Groups + 1, s.Group, math.MaxInt})
	}
	return p
}

// chanceMap is where a script begins.
func chanceMap(r *rand.Rand) api.Atlas {
	switch r.Intn(4) {
	case 0:
		return many(1 + r.Intn(api.MaxShards))
	case 1:
		return pick(r, stages).plan()
	}
	a, _ := atlas.New(1 + r.Intn(4))
	if r.Intn(4) == 0 { // soon at the last Epoch, or the last Shard
		a.Spans[0].Epoch = top - r.Int63n(12)
		a.Last = top - r.Intn(8)
	}
	return a
}

// deed is what a call did: to a plan in which stage, with which answer.
type deed struct {
	call string
	stage
	err api.Errno
}

// chanceStep does one call to a map, by chance.
func chanceStep(t *testing.T, r *rand.Rand, a api.Atlas) (answer, deed) {
	t.Helper()
	was := stage{a.Plan.Kind, a.Plan.Phase}
	n, begins, aborts := r.Intn(10), 1, 3
	if was.kind == 0 {
		begins, aborts = 7, 8
	}
	switch {
	case n < begins:
		p := chancePlan(r, a)
		x := begin(t, a, p)
		return x, deed{"begin", stage{p.Kind, was.phase}, x.err}
	case n < aborts:
		x := abort(t, a)
		return x, deed{"abort", was, x.err}
	case n < 9:
		x := advance(t, a, was.phase)
		return x, deed{"advance", was, x.err}
	}
	x := advance(t, a, pick(r, []int{0, 1, 2, 3, 4, 9, -1, r.Intn(12)}))
	return x, deed{"advance", was, x.err}
}

// track holds what P19.6 says of a script's whole length: what was seen of each Shard last.
type track map[int]api.Span

func (k track) look(t *testing.T, a api.Atlas) {
	t.Helper()
	for _, s := range a.Spans {
		old, there := k[s.Shard]
		if there && (s.Epoch < old.Epoch || s.Group != old.Group && s.Epoch == old.Epoch) {
			t.Errorf("P19.6: shard %d was %+v, and is %+v", s.Shard, old, s)
		}
		k[s.Shard] = s
	}
}

func TestScripts(t *testing.T) {
	done := map[deed]int{}
	most := 0
	for seed := range int64(900) {
		r := rand.New(rand.NewSource(seed))
		a := chanceMap(r)
		k := track{}
		k.look(t, a)
		for range 90 {
			x, d := chanceStep(t, r, a)
			done[d]++
			a = x.a
			k.look(t, a)
			find(t, a, pick(r, keys))
			most = max(most, len(a.Spans))
			if t.Failed() {
				t.Fatalf("seed %d", seed)
			}
		}
	}
	wide(t, done)
	if most != api.MaxShards {
		t.Errorf("at most %d spans: the scripts are too narrow", most)
	}
}

// wide looks whether the scripts have met all that there is.
func wide(t *testing.T, done map[deed]int) {
	t.Helper()
	var want []deed
	for _, s := range stages {
		want = append(want, deed{"advance", s, api.OK}, deed{"advance", s, api.ErrState})
		err := api.ErrState
		if s.phase == 1 {
			err = api.OK
			want = append(want, deed{"begin", stage{s.kind, 0}, api.OK})
		}
		want = append(want, deed{"abort", s, err}, deed{"begin", stage{s.kind, s.phase}, api.ErrBusy})
	}
	want = append(want, deed{"advance", stage{}, api.ErrState}, deed{"abort", stage{}, api.ErrState})
	want = append(want, deed{"begin", stage{1, 0}, api.ErrShard}, deed{"begin", stage{2, 0}, api.ErrShard}, deed{"begin", stage{3, 0}, api.ErrShard})
	want = append(want, deed{"begin", stage{1, 0}, api.ErrArg}, deed{"begin", stage{2, 0}, api.ErrArg}, deed{"begin", stage{3, 0}, api.ErrArg}, deed{"begin", stage{4, 0}, api.ErrArg}, deed{"begin", stage{0, 0}, api.ErrArg})
	want = append(want, deed{"begin", stage{2, 0}, api.ErrRange}, deed{"begin", stage{3, 0}, api.ErrRange}, deed{"begin", stage{2, 0}, api.ErrFull})
	for _, d := range want {
		if done[d] < 20 {
			t.Errorf("%+v: met %d times, the scripts are too narrow", d, done[d])
		}
	}
}

// spoilt is a map with one thing set by chance, mostly none that is right.
func spoilt(r *rand.Rand, a api.Atlas) api.Atlas {
	a = copied(a)
	s := &a.Spans[r.Intn(len(a.Spans))]
	n := pick(r, []int{0, 1, 2, 3, 4, 5, 7, 8, 9, 10, -1, 16, 20, 21, 22, 23, top - 2, top - 1, top, top + 1, math.MaxInt, math.MinInt})
	key := pick(r, append([]string{"A", "zzzzzzzzzzzzzzzzz", ""}, keys...))
	all := []func(){
		func() { a.Groups = n }, func() { a.Last = n }, func() { s.From = key }, func() { s.To = key }, func() { s.Shard = n }, func() { s.Epoch = int64(n) }, func() { s.Group = n },
		func() { a.Plan.Kind = n }, func() { a.Plan.Phase = n }, func() { a.Plan.Shard = n }, func() { a.Plan.Other = n }, func() { a.Plan.Group = n }, func() { a.Plan.Past = n }, func() { a.Plan.Epoch = int64(n) }, func() { a.Plan.Key = key },
		func() { s.Epoch, a.Plan.Epoch = int64(n), int64(n) }, func() { s.Group, a.Plan.Past = n, n }, func() { s.Group, a.Plan.Group = n, n }, func() { a.Last, a.Plan.Other = n, n },
		func() { a.Spans = a.Spans[:len(a.Spans)-1] }, func() { a.Spans = append(a.Spans, *s) }, func() { a.Plan = api.Plan{} }, func() { a.Plan = pick(r, stages).plan().Plan },
	}
	pick(r, all)()
	return a
}

// Of maps that are right but for one or two things, and of such that are right with them, every call answers what the paper answers.
func TestSpoiltMaps(t *testing.T) {
	right, not := 0, 0
	for seed := range int64(40000) {
		r := rand.New(rand.NewSource(seed))
		a := pick(r, append(stages, stage{0, 0})).plan()
		if a.Plan.Kind == 0 {
			a.Plan = api.Plan{}
		}
		a = spoilt(r, a)
		if len(a.Spans) > 0 && r.Intn(3) == 0 {
			a = spoilt(r, a)
		}
		wantCheck(t, a, paperCheck(a))
		if paperCheck(a) {
			right++
		} else {
			not++
		}
		begin(t, a, move(2, 3))
		begin(t, a, split(2, "k"))
		begin(t, a, merge(2))
		advance(t, a, a.Plan.Phase)
		abort(t, a)
		find(t, a, pick(r, keys))
		if t.Failed() {
			t.Fatalf("seed %d", seed)
		}
	}
	if right < 4000 || not < 4000 {
		t.Errorf("%d maps are right, %d aren't: the chance is too narrow", right, not)
	}
}

// All plans of small numbers, asked of small maps.
func TestBeginSmall(t *testing.T) {
	maps := []api.Atlas{mapOf(2, 1, api.Plan{}, spanOf("", "", 1, 2, 1)), mapOf(2, 3, api.Plan{}, spanOf("", "m", 1, 3, 2), spanOf("m", "", 2, 1, 2)), mapOf(3, 2, api.Plan{}, spanOf("", "m", 2, 1, 1), spanOf("m", "", 1, 1, 3))}
	ok := 0
	smallPlans(func(p api.Plan) {
		for _, a := range maps {
			got := ofMap(atlas.Begin(a, p))
			if !got.same(paperBegin(a, p)) {
				t.Fatalf("P19.3: Begin(%s, %s): %s", told(a), toldPlan(p), got.told())
			}
			if got.err == api.OK {
				ok++
				for _, phase := range []int{0, 1, 2, 3, 9} {
					if x := ofMap(atlas.Advance(got.a, phase)); !x.same(paperAdvance(got.a, phase)) {
						t.Fatalf("P19.4: Advance(%s, %d): %s", told(got.a), phase, x.told())
					}
				}
			}
		}
	})
	if ok < 1000 {
		t.Errorf("%d plans began: the maps are too few", ok)
	}
}

// Many may ask of one map at one time: no call writes to it.
func TestAtOneTime(t *testing.T) {
	maps := []api.Atlas{three(), many(api.MaxShards)}
	for _, s := range stages {
		maps = append(maps, s.plan())
	}
	for i := range maps {
		maps[i] = lend(maps[i])
	}
	calls := func(i int) []answer {
		r := rand.New(rand.NewSource(int64(i)))
		var all []answer
		for range 20 {
			for _, a := range maps {
				all = append(all, ofMap(atlas.Begin(a, chancePlan(r, a))), ofMap(atlas.Advance(a, a.Plan.Phase)), ofMap(atlas.Abort(a)), ofFind(atlas.Find(a, pick(r, keys))))
			}
		}
		return all
	}
	got := make([][]answer, 32)
	var wait sync.WaitGroup
	for i := range got {
		wait.Go(func() { got[i] = calls(i) })
	}
	wait.Wait()
	for i, a := range maps {
		want := []api.Atlas{three(), many(api.MaxShards)}
		for _, s := range stages {
			want = append(want, s.plan())
		}
		if !stays(a, want[i]) {
			t.Errorf("rule 5: a map was changed: %s", told(a))
		}
	}
	for i := range got {
		if !slices.EqualFunc(got[i], calls(i), answer.same) {
			t.Errorf("rule 6: script %d is answered otherwise at one time", i)
		}
	}
}
