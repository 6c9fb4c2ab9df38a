package atlas_test

import (
	"fmt"
	"math"
	"testing"

	"matins/api"
)

func move(shard, group int) api.Plan { return api.Plan{Kind: api.PlanMove, Shard: shard, Group: group} }

func split(shard int, key string) api.Plan {
	return api.Plan{Kind: api.PlanSplit, Shard: shard, Key: key}
}

func merge(shard int) api.Plan { return api.Plan{Kind: api.PlanMerge, Shard: shard} }

// dressed are a plan's guises with the fields set that aren't asked.
func dressed(p api.Plan) []api.Plan {
	all := []api.Plan{p}
	for _, n := range []int{1, 2, 9, -1, math.MaxInt, math.MinInt} {
		d := p
		d.Phase, d.Other, d.Past, d.Epoch = n, n, n, int64(n)
		if p.Kind != api.PlanMove {
			d.Group = n
		}
		if p.Kind != api.PlanSplit {
			d.Key = "M!"
		}
		all = append(all, d)
	}
	for _, set := range []func(*api.Plan){
		func(d *api.Plan) { d.Phase = 9 }, func(d *api.Plan) { d.Other = 4 }, func(d *api.Plan) { d.Past = 3 }, func(d *api.Plan) { d.Epoch = 77 },
	} {
		d := p
		set(&d)
		all = append(all, d)
	}
	return all
}

// begins looks whether a plan, in each of its guises, begins as it should.
func begins(t *testing.T, a api.Atlas, p api.Plan, want api.Plan, last int) {
	t.Helper()
	behind := a
	behind.Plan, behind.Last = want, last
	for _, d := range dressed(p) {
		turns(t, "P19.3: Begin", begin(t, a, d), behind)
	}
}

func TestBeginMove(t *testing.T) {
	for i, s := range three().Spans {
		for group := -1; group <= 6; group++ {
			p := move(s.Shard, group)
			if group < 1 || group > 4 || group == s.Group {
				for _, d := range dressed(p) {
					noBegin(t, three(), d, api.ErrArg)
				}
				continue
			}
			begins(t, three(), p, api.Plan{Kind: 1, Phase: 1, Shard: s.Shard, Group: group, Past: s.Group, Epoch: s.Epoch}, 9)
			for epoch, err := range map[int64]api.Errno{1: 0, 2: 0, 1 << 32: 0, top - 3: 0, top - 2: 0, top - 1: api.ErrArg, top: api.ErrArg} {
				a := at(three(), i, func(s *api.Span) { s.Epoch = epoch })
				if err != api.OK {
					noBegin(t, a, p, err)
					continue
				}
				begins(t, a, p, api.Plan{Kind: 1, Phase: 1, Shard: s.Shard, Group: group, Past: s.Group, Epoch: epoch}, 9)
			}
		}
		for _, group := range []int{0, 5, 9, math.MaxInt, math.MinInt, s.Group + 1<<32, 1<<32 + 3} {
			noBegin(t, three(), move(s.Shard, group), api.ErrArg)
		}
	}
	one := api.Atlas{Groups: 1, Last: 1, Spans: []api.Span{{Shard: 1, Epoch: 1, Group: 1}}}
	for group := range 4 { // there is nowhere to move to
		noBegin(t, one, move(1, group), api.ErrArg)
	}
	full := many(api.MaxShards) // a move asks for no room
	full.Last = top
	full.Spans[4].Shard = top
	begins(t, full, move(top, 3), api.Plan{Kind: 1, Phase: 1, Shard: top, Group: 3, Past: 2, Epoch: 5}, top)
}

func TestBeginSplit(t *testing.T) {
	for i, keys := range []struct{ in, out []string }{
		{[]string{"-", "--", ".", "a", "g", "gz", "gzzzzzzzzzzzzzzz"}, []string{"h", "h-", "i", "p", "z"}},
		{[]string{"h-", "ha", "i", "m", "o", "ozzzzzzzzzzzzzzz"}, []string{"-", "a", "g", "gzzzzzzzzzzzzzzz", "h", "p", "p-", "q", "z"}},
		{[]string{"p-", "pa", "q", "z", "zzzzzzzzzzzzzzzz"}, []string{"-", "a", "h", "o", "ozzzzzzzzzzzzzzz", "p"}},
	} {
		s := three().Spans[i]
		for _, key := range keys.in {
			begins(t, three(), split(s.Shard, key), api.Plan{Kind: 2, Phase: 1, Shard: s.Shard, Other: 10, Group: s.Group, Epoch: s.Epoch, Key: key}, 10)
		}
		for _, key := range append(keys.out, noNames...) {
			for _, d := range dressed(split(s.Shard, key)) {
				noBegin(t, three(), d, api.ErrRange)
			}
		}
	}
	for n := 1; n <= api.MaxShards; n++ {
		a := many(n)
		s := a.Spans[n-1]
		if n == api.MaxShards {
			noBegin(t, a, split(s.Shard, "z"), api.ErrFull)
			noBegin(t, a, split(a.Spans[0].Shard, "a"), api.ErrFull)
			continue
		}
		begins(t, a, split(s.Shard, "z"), api.Plan{Kind: 2, Phase: 1, Shard: s.Shard, Other: n + 6, Group: s.Group, Epoch: int64(n), Key: "z"}, n+6)
	}
	for last, err := range map[int]api.Errno{7: 0, 8: 0, 1 << 32: 0, top - 2: 0, top - 1: 0, top: api.ErrFull} {
		a := three()
		a.Last = last
		if err != api.OK {
			noBegin(t, a, split(2, "m"), err)
			continue
		}
		begins(t, a, split(2, "m"), api.Plan{Kind: 2, Phase: 1, Shard: 2, Other: last + 1, Group: 2, Epoch: 20, Key: "m"}, last+1)
	}
	for epoch, err := range map[int64]api.Errno{1: 0, top - 2: 0, top - 1: api.ErrArg, top: api.ErrArg} {
		a := at(three(), 1, func(s *api.Span) { s.Epoch = epoch })
		if err != api.OK {
			noBegin(t, a, split(2, "m"), err)
			continue
		}
		begins(t, a, split(2, "m"), api.Plan{Kind: 2, Phase: 1, Shard: 2, Other: 10, Group: 2, Epoch: epoch, Key: "m"}, 10)
	}
}

func TestBeginMerge(t *testing.T) {
	begins(t, three(), merge(2), api.Plan{Kind: 3, Phase: 1, Shard: 2, Other: 7, Group: 2, Epoch: 20}, 9)
	for _, d := range dressed(merge(4)) { // the next one's Group is another
		noBegin(t, three(), d, api.ErrRange)
	}
	for _, d := range dressed(merge(7)) { // the last one
		noBegin(t, three(), d, api.ErrRange)
	}
	one := api.Atlas{Groups: 1, Last: 1, Spans: []api.Span{{Shard: 1, Epoch: 1, Group: 1}}}
	noBegin(t, one, merge(1), api.ErrRange)
	for _, r := range []struct {
		first, second, third int64
		shard                int
		err                  api.Errno
	}{
		{1, 1, 1, 2, 0}, {top, 1, 1, 2, 0}, {top, top - 2, top - 2, 2, 0}, {1, top - 1, 1, 2, api.ErrArg}, {1, top, 1, 2, api.ErrArg}, {1, 1, top - 1, 2, api.ErrArg}, {1, 1, top, 2, api.ErrArg}, {1, top, top, 2, api.ErrArg},
		{1, 1, top, 4, api.ErrRange}, {1, top - 2, top, 4, api.ErrRange}, {1, top - 1, 1, 4, api.ErrArg}, {top - 1, 1, 1, 4, api.ErrArg}, {top - 2, 1, 1, 4, api.ErrRange},
		{top, top, 1, 7, api.ErrRange}, {1, 1, top - 2, 7, api.ErrRange}, {1, 1, top - 1, 7, api.ErrArg}, {1, 1, top, 7, api.ErrArg},
	} {
		a := three()
		a.Spans[0].Epoch, a.Spans[1].Epoch, a.Spans[2].Epoch = r.first, r.second, r.third
		if r.err != api.OK {
			noBegin(t, a, merge(r.shard), r.err)
			continue
		}
		begins(t, a, merge(r.shard), api.Plan{Kind: 3, Phase: 1, Shard: 2, Other: 7, Group: 2, Epoch: r.second}, 9)
	}
	for n := 2; n <= api.MaxShards; n++ {
		for i := range n - 1 {
			a := many(n)
			s := a.Spans[i]
			noBegin(t, a, merge(s.Shard), api.ErrRange)
			a.Spans[i+1].Group = s.Group
			begins(t, a, merge(s.Shard), api.Plan{Kind: 3, Phase: 1, Shard: s.Shard, Other: s.Shard - 1, Group: s.Group, Epoch: s.Epoch}, n+5)
		}
	}
}

func TestBeginOtherKinds(t *testing.T) {
	for _, kind := range []int{0, 4, 5, 9, -1, -3, 256 + 1, 1<<32 + 1, 1<<32 + 3, math.MaxInt, math.MinInt} {
		for _, p := range []api.Plan{{}, {Shard: 2, Group: 3, Key: "m"}, {Shard: 5}, {Phase: 1, Shard: 2, Other: 7, Group: 2, Epoch: 20}} {
			p.Kind = kind
			noBegin(t, three(), p, api.ErrArg)
			noBegin(t, many(api.MaxShards), p, api.ErrArg)
			noBegin(t, planned(2, 1), p, api.ErrBusy)
		}
	}
}

func TestBeginNoShard(t *testing.T) {
	for _, shard := range []int{0, -1, 1, 3, 5, 6, 8, 9, 10, 2 + 1<<32, math.MaxInt, math.MinInt} {
		for _, p := range []api.Plan{move(shard, 3), move(shard, 0), split(shard, "m"), split(shard, ""), merge(shard)} {
			noBegin(t, three(), p, api.ErrShard)
		}
	}
}

// While there is a plan, in whichever phase, none begins.
func TestBeginBusy(t *testing.T) {
	for _, s := range stages {
		for _, p := range []api.Plan{move(2, 4), move(4, 3), move(4, 9), split(4, "a"), split(2, "m"), merge(2), merge(4), merge(9), {}, {Kind: 9}, s.plan().Plan} {
			noBegin(t, s.plan(), p, api.ErrBusy)
		}
	}
}

// scene is a map with what is asked of it.
type scene struct {
	a api.Atlas
	p api.Plan
}

// fault is one thing for which a plan is refused, in several guises.
type fault struct {
	err    api.Errno
	guises []func(*scene)
}

// inOrder looks at a Kind's errors: each alone, in each of its guises; each two at once; and each set of them. The first one is told.
func inOrder(t *testing.T, base func() scene, faults []fault) {
	t.Helper()
	look := func(want api.Errno, guises ...func(*scene)) {
		t.Helper()
		s := base()
		for _, g := range guises {
			g(&s)
		}
		x := begin(t, s.a, s.p)
		switch {
		case want == api.ErrState:
			refused(t, "P19.3", x, api.Atlas{}, want)
		case want != api.OK:
			refused(t, "P19.3", x, s.a, want)
		case x.err != api.OK:
			t.Errorf("P19.3: %s", x.told())
		}
	}
	look(api.OK)
	for i, a := range faults {
		for _, one := range a.guises {
			look(a.err, one)
			for _, b := range faults[i+1:] {
				for _, two := range b.guises {
					look(a.err, one, two)
					look(a.err, two, one)
				}
			}
		}
	}
	for set := 1; set < 1<<len(faults); set++ {
		var guises []func(*scene)
		first := api.OK
		for i, f := range faults {
			if set>>i&1 == 1 {
				guises = append(guises, f.guises[set%len(f.guises)])
				if first == api.OK {
					first = f.err
				}
			}
		}
		look(first, guises...)
	}
}

// asks are guises that set something of what is asked.
func asks[T any](set func(*api.Plan, T), values ...T) []func(*scene) {
	var all []func(*scene)
	for _, v := range values {
		all = append(all, func(s *scene) { set(&s.p, v) })
	}
	return all
}

// spans is a guise that sets something of the span at a place, if it is there.
func spans(i int, set func(*api.Span)) func(*scene) {
	return func(s *scene) {
		if i < len(s.a.Spans) {
			s.a = at(s.a, i, set)
		}
	}
}

// crowded is a map with spans behind its last one, until there are as many as there may be.
func crowded(a api.Atlas) api.Atlas {
	a = copied(a)
	for n := len(a.Spans); n > 0 && n < api.MaxShards; n++ {
		from := fmt.Sprintf("q%02d", n)
		a.Spans[n-1].To = from
		a.Spans = append(a.Spans, spanOf(from, "", 100+n, 1, 2))
		a.Last = max(a.Last, 200)
	}
	return a
}

func epochOf(n int64) func(*api.Span) { return func(s *api.Span) { s.Epoch = n } }

var (
	notRight = fault{api.ErrState, []func(*scene){
		func(s *scene) { s.a.Groups = 0 }, func(s *scene) { s.a.Groups = 9 }, func(s *scene) { s.a.Spans = nil }, spans(0, func(s *api.Span) { s.To = "" }), spans(0, func(s *api.Span) { s.Group = 5 }),
	}}
	busy = fault{api.ErrBusy, []func(*scene){
		func(s *scene) { // of the third span, which the other faults leave
			s.a.Plan = api.Plan{Kind: api.PlanMove, Phase: 1, Shard: 7, Group: 1, Past: 2, Epoch: 5}
		},
	}}
	noKind  = fault{api.ErrArg, asks(setKind, 0, 4, -1, math.MaxInt, math.MinInt)}
	noShard = fault{api.ErrShard, asks(setShard, 0, 1, 8, -1, math.MaxInt, math.MinInt)}
	tooHigh = fault{api.ErrArg, []func(*scene){spans(1, epochOf(top-1)), spans(1, epochOf(top))}}
	full    = fault{api.ErrFull, []func(*scene){func(s *scene) { s.a.Last = top }, func(s *scene) { s.a = crowded(s.a) }}}
)

func TestBeginErrorsInOrder(t *testing.T) {
	inOrder(t, func() scene { return scene{three(), move(2, 3)} }, []fault{notRight, busy, noKind, noShard, tooHigh,
		{api.ErrArg, asks(setGroup, 0, 2, 5, -1, math.MaxInt)},
	})
	inOrder(t, func() scene { return scene{three(), split(2, "m")} }, []fault{notRight, busy, noKind, noShard, tooHigh,
		{api.ErrRange, asks(setKey, "", "h", "a", "p", "z", "M", "m_")},
		full,
	})
	inOrder(t, func() scene { return scene{three(), merge(2)} }, []fault{notRight, noKind, noShard, tooHigh,
		{api.ErrArg, []func(*scene){spans(2, epochOf(top-1)), spans(2, epochOf(top))}},
		{api.ErrRange, []func(*scene){spans(2, func(s *api.Span) { s.Group = 3 })}},
	})
	inOrder(t, func() scene { return scene{three(), merge(2)} }, []fault{notRight, busy, noKind, noShard, tooHigh,
		{api.ErrRange, []func(*scene){spans(1, func(s *api.Span) { s.Group = 1 })}},
	})
}
