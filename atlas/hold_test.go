package atlas_test

import (
	"fmt"
	"slices"
	"strings"
	"testing"

	"matins/api"
	"matins/atlas"
)

const spare = 3 // places of spare room behind the spans that are handed in

var (
	roomSpan   = api.Span{From: "room", To: "spare", Shard: -7, Epoch: -7, Group: -7}
	spoiltSpan = api.Span{From: "spoilt", To: "a", Shard: -8, Epoch: -8, Group: -8}
)

// lend is a map with its spans in new memory, and spare room behind them that is filled; nil stays nil.
func lend(a api.Atlas) api.Atlas {
	if a.Spans == nil {
		return a
	}
	all := make([]api.Span, len(a.Spans), len(a.Spans)+spare)
	copy(all, a.Spans)
	for i := range spare {
		all[:cap(all)][len(a.Spans)+i] = roomSpan
	}
	a.Spans = all
	return a
}

func copied(a api.Atlas) api.Atlas {
	a.Spans = slices.Clone(a.Spans)
	return a
}

func same(a, b api.Atlas) bool {
	return a.Groups == b.Groups && a.Last == b.Last && slices.Equal(a.Spans, b.Spans) && a.Plan == b.Plan
}

// stretched is a map with the spare room of its spans too.
func stretched(a api.Atlas) api.Atlas {
	a.Spans = a.Spans[:cap(a.Spans)]
	return a
}

// stays tells whether a map that was lent is as it was lent, spare room too.
func stays(lent, a api.Atlas) bool { return same(stretched(lent), stretched(lend(a))) }

// spoil writes over the spans of a map, and their spare room: whoever shares memory with it shows that.
func spoil(a api.Atlas) {
	all := a.Spans[:cap(a.Spans)]
	for i := range all {
		all[i] = spoiltSpan
	}
}

// answer is what a call answers: a map and an error, or a span and whether there is one.
type answer struct {
	a    api.Atlas
	err  api.Errno
	span api.Span
	ok   bool
}

func ofMap(a api.Atlas, err api.Errno) answer { return answer{a: a, err: err} }

func ofFind(s api.Span, ok bool) answer { return answer{span: s, ok: ok} }

func (x answer) same(y answer) bool {
	return same(x.a, y.a) && x.err == y.err && x.span == y.span && x.ok == y.ok
}

func (x answer) told() string {
	return fmt.Sprintf("%s, error %d, %+v, %t", told(x.a), x.err, x.span, x.ok)
}

func toldPlan(p api.Plan) string {
	return fmt.Sprintf("{%d %d %d %d %d %d %d %.20q}", p.Kind, p.Phase, p.Shard, p.Other, p.Group, p.Past, p.Epoch, p.Key)
}

func told(a api.Atlas) string {
	all := fmt.Sprintf("%d groups, last %d, plan %s, %d spans", a.Groups, a.Last, toldPlan(a.Plan), len(a.Spans))
	for i, s := range a.Spans {
		if i == 17 {
			return all + " .."
		}
		all += fmt.Sprintf(" {%.20q %.20q %d %d %d}", s.From, s.To, s.Shard, s.Epoch, s.Group)
	}
	return all
}

// hold makes a call with a map that it lends, holds it against the paper, and looks whether the call leaves what it is lent, answers the same once more, and shares no memory; and what P19.6 says of the map behind it.
func hold(t testing.TB, name string, a api.Atlas, want answer, call func(api.Atlas) answer) answer {
	t.Helper()
	fail := func(what string, x answer) {
		t.Helper()
		t.Errorf("%s: %s of %s:\n     %s,\nwant %s", what, name, told(a), x.told(), want.told())
	}
	lent := lend(a)
	first := call(lent)
	got := first
	got.a = copied(first.a)
	if !got.same(want) {
		fail("not by the paper", got)
	}
	second := call(lent)
	if !stays(lent, a) {
		fail("rule 5: what is lent is changed", answer{a: stretched(lent)})
	}
	spoil(lent)
	if !first.same(got) {
		fail("rule 5: the answer shares memory with the argument", first)
	}
	spoil(first.a)
	if !second.same(got) {
		fail("rules 5, 6: once more", second)
	}
	return got
}

// probes are names around the ends of a right map's spans, and others.
func probes(a api.Atlas) []string {
	all := []string{"-", "--", ".", "0", "9", "a", "m", "z", "zzzzzzzzzzzzzzzz"}
	for _, s := range a.Spans[1:] {
		all = append(all, s.From)
		if name := below(s.From); name != "" {
			all = append(all, name)
		}
		if name := s.From + "-"; len(name) <= api.MaxName {
			all = append(all, name)
		}
	}
	return all
}

// below is the name just below another one; an empty text, if there is none.
func below(s string) string {
	const bytes = "-.0123456789abcdefghijklmnopqrstuvwxyz"
	i := strings.IndexByte(bytes, s[len(s)-1])
	if i == 0 {
		return s[:len(s)-1]
	}
	under := s[:len(s)-1] + bytes[i-1:i]
	return under + strings.Repeat("z", api.MaxName-len(under))
}

// keeps holds P19.6: a right map stays right, each name lies in one span's range, no Epoch of a Shard falls, and where its Group changes it rises.
func keeps(t testing.TB, name string, was, is api.Atlas) {
	t.Helper()
	if !paperCheck(was) {
		return
	}
	if !atlas.Check(lend(is)) || !paperCheck(is) {
		t.Errorf("P19.6: %s of %s: no right map: %s", name, told(was), told(is))
		return
	}
	for _, key := range probes(is) {
		n := 0
		for _, s := range is.Spans {
			if paperIn(s, key) {
				n++
			}
		}
		if n != 1 {
			t.Errorf("P19.6: %s of %s: %q lies in %d ranges of %s", name, told(was), key, n, told(is))
		}
	}
	for _, s := range is.Spans {
		old := paperOf(was.Spans, s.Shard)
		if old == 0 {
			continue
		}
		ahead := was.Spans[old-1]
		if s.Epoch < ahead.Epoch || s.Group != ahead.Group && s.Epoch == ahead.Epoch {
			t.Errorf("P19.6: %s of %s: shard %d: %+v", name, told(was), s.Shard, s)
		}
	}
}

// step is a call that answers a map: held, and looked at by P19.6.
func step(t testing.TB, name string, a api.Atlas, want answer, call func(api.Atlas) answer) answer {
	t.Helper()
	got := hold(t, name, a, want, call)
	keeps(t, name, a, got.a)
	return got
}

func begin(t testing.TB, a api.Atlas, p api.Plan) answer {
	t.Helper()
	call := func(lent api.Atlas) answer { return ofMap(atlas.Begin(lent, p)) }
	return step(t, "P19.3: Begin(.., "+toldPlan(p)+")", a, paperBegin(a, p), call)
}

func advance(t testing.TB, a api.Atlas, phase int) answer {
	t.Helper()
	call := func(lent api.Atlas) answer { return ofMap(atlas.Advance(lent, phase)) }
	return step(t, fmt.Sprintf("P19.4: Advance(.., %d)", phase), a, paperAdvance(a, phase), call)
}

func abort(t testing.TB, a api.Atlas) answer {
	t.Helper()
	call := func(lent api.Atlas) answer { return ofMap(atlas.Abort(lent)) }
	return step(t, "P19.5: Abort", a, paperAbort(a), call)
}

func find(t testing.TB, a api.Atlas, key string) answer {
	t.Helper()
	call := func(lent api.Atlas) answer { return ofFind(atlas.Find(lent, key)) }
	return hold(t, fmt.Sprintf("P19.2: Find(.., %.30q)", key), a, paperFind(a, key), call)
}

// must is an answer that is OK; its map.
func must(t testing.TB, x answer) api.Atlas {
	t.Helper()
	if x.err != api.OK {
		t.Fatalf("refused: %s", x.told())
	}
	return x.a
}

// refused looks whether an answer is an error, with the map as it was.
func refused(t testing.TB, what string, x answer, a api.Atlas, want api.Errno) {
	t.Helper()
	if !x.same(answer{a: a, err: want}) {
		t.Errorf("%s: %s,\nwant error %d and %s", what, x.told(), want, told(a))
	}
}

func noBegin(t testing.TB, a api.Atlas, p api.Plan, want api.Errno) {
	t.Helper()
	refused(t, "P19.3: Begin(.., "+toldPlan(p)+")", begin(t, a, p), a, want)
}

func noAdvance(t testing.TB, a api.Atlas, phase int) {
	t.Helper()
	refused(t, fmt.Sprintf("P19.4: Advance(.., %d)", phase), advance(t, a, phase), a, api.ErrState)
}

func noAbort(t testing.TB, a api.Atlas) {
	t.Helper()
	refused(t, "P19.5: Abort", abort(t, a), a, api.ErrState)
}

// turns looks whether an answer is OK, with this map.
func turns(t testing.TB, what string, x answer, want api.Atlas) {
	t.Helper()
	if !x.same(answer{a: want}) {
		t.Errorf("%s: %s,\nwant %s", what, x.told(), told(want))
	}
}

func wantCheck(t testing.TB, a api.Atlas, want bool) {
	t.Helper()
	lent := lend(a)
	if got := atlas.Check(lent); got != want || paperCheck(a) != want {
		t.Errorf("P19.1: Check(%s): %t, by the paper %t, want %t", told(a), got, paperCheck(a), want)
	}
	if !stays(lent, a) {
		t.Errorf("rule 5: Check(%s) changes what is lent", told(a))
	}
}

// wrong looks whether every call refuses a map that isn't right, whatever else it is asked.
func wrong(t testing.TB, a api.Atlas) {
	t.Helper()
	wantCheck(t, a, false)
	for _, key := range []string{"a", "m", "", "A"} {
		if x := find(t, a, key); !x.same(answer{}) {
			t.Errorf("P19.2: Find(.., %q) of %s: %s", key, told(a), x.told())
		}
	}
	for _, p := range []api.Plan{{}, {Kind: 1, Shard: 1, Group: 2}, {Kind: 2, Shard: 1, Key: "a"}, {Kind: 3, Shard: 1}, {Kind: 9}} {
		refused(t, "P19.3: Begin", begin(t, a, p), api.Atlas{}, api.ErrState)
	}
	for _, phase := range []int{0, 1, 2, 3, 9, a.Plan.Phase} {
		refused(t, "P19.4: Advance", advance(t, a, phase), api.Atlas{}, api.ErrState)
	}
	refused(t, "P19.5: Abort", abort(t, a), api.Atlas{}, api.ErrState)
}
