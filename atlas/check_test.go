package atlas_test

import (
	"fmt"
	"math"
	"strings"
	"testing"

	"matins/api"
	"matins/atlas"
)

// noNames are texts that are no names.
var noNames = []string{"", "A", " ", "a b", "ä", "n\x00", "n_", "n\n", "\xff", "nM", "n/", "n`", "n{", "n:", "n,", strings.Repeat("n", api.MaxName+1), strings.Repeat("n", api.MaxText)}

func spanOf(from, to string, shard int, epoch int64, group int) api.Span {
	return api.Span{From: from, To: to, Shard: shard, Epoch: epoch, Group: group}
}

// three is a map of three spans, without a plan; the second and the third are of one group.
func three() api.Atlas {
	return api.Atlas{Groups: 4, Last: 9, Spans: []api.Span{spanOf("", "h", 4, 10, 1), spanOf("h", "p", 2, 20, 2), spanOf("p", "", 7, 5, 2)}}
}

// many is a map of so many spans, of three groups in turn, whose Shards fall and whose Epochs rise.
func many(n int) api.Atlas {
	a := api.Atlas{Groups: 3, Last: n + 5}
	from := ""
	for i := range n {
		to := fmt.Sprintf("n%02d", i)
		if i == n-1 {
			to = ""
		}
		a.Spans = append(a.Spans, spanOf(from, to, n+1-i, int64(1+i), 1+i%3))
		from = to
	}
	return a
}

// at is a map with the span at a place altered.
func at(a api.Atlas, i int, set func(*api.Span)) api.Atlas {
	a = copied(a)
	set(&a.Spans[i])
	return a
}

// with is a map with its plan altered.
func with(a api.Atlas, set func(*api.Plan)) api.Atlas {
	set(&a.Plan)
	return a
}

func TestNew(t *testing.T) {
	for groups := -20; groups <= 40; groups++ {
		got := ofMap(atlas.New(groups))
		if groups < 1 || groups > api.MaxGroups {
			if !got.same(answer{err: api.ErrArg}) || got.a.Spans != nil {
				t.Errorf("P19.1: New(%d): %s", groups, got.told())
			}
			continue
		}
		want := answer{a: api.Atlas{Groups: groups, Last: 1, Spans: []api.Span{{Shard: 1, Epoch: 1, Group: 1}}}}
		if !got.same(want) || !got.same(paperNew(groups)) {
			t.Errorf("P19.1: New(%d): %s", groups, got.told())
		}
		wantCheck(t, got.a, true)
		spoil(got.a)
		if again := ofMap(atlas.New(groups)); !again.same(want) {
			t.Errorf("rules 5, 6: New(%d) once more: %s", groups, again.told())
		}
	}
	for _, groups := range []int{0, -1, api.MaxGroups + 1, math.MaxInt, math.MinInt, 1<<32 + 1, -1<<32 + 1, 256 + 1} {
		if got := ofMap(atlas.New(groups)); !got.same(answer{err: api.ErrArg}) {
			t.Errorf("P19.1: New(%d): %s", groups, got.told())
		}
	}
}

func TestCheckGroups(t *testing.T) {
	one := api.Atlas{Groups: 1, Last: 1, Spans: []api.Span{{Shard: 1, Epoch: 1, Group: 1}}}
	for _, r := range []struct {
		groups int
		want   bool
	}{{0, false}, {1, true}, {2, true}, {api.MaxGroups, true}, {api.MaxGroups + 1, false}, {-1, false}, {1<<32 + 1, false}, {math.MaxInt, false}, {math.MinInt, false}} {
		one.Groups = r.groups
		wantCheck(t, one, r.want)
		for i := range 3 {
			a := three()
			a.Groups = r.groups
			wantCheck(t, a, r.want && r.groups > 1)
			for _, g := range []int{0, -1, 1, 2, r.groups - 1, r.groups, r.groups + 1, math.MaxInt, math.MinInt, 1<<32 + 1} {
				others := max(1, min(r.groups, 2))
				b := at(a, i, func(s *api.Span) { s.Group = g })
				for j := range b.Spans {
					if j != i {
						b.Spans[j].Group = others
					}
				}
				wantCheck(t, b, r.want && g >= 1 && g <= r.groups)
			}
		}
	}
}

func TestCheckHowMany(t *testing.T) {
	wantCheck(t, api.Atlas{}, false)
	wantCheck(t, api.Atlas{Groups: 1, Last: 1}, false)
	wantCheck(t, api.Atlas{Groups: 1, Last: 1, Spans: []api.Span{}}, false)
	for n := 1; n <= 40; n++ {
		wantCheck(t, many(n), n <= api.MaxShards)
	}
	wantCheck(t, many(17), false)
	wantCheck(t, three(), true)
	a := three()
	a.Spans = nil
	wantCheck(t, a, false)
}

func TestCheckLast(t *testing.T) {
	for _, r := range []struct {
		last int
		want bool
	}{{math.MinInt, false}, {-1, false}, {0, false}, {1, true}, {2, true}, {1 << 32, true}, {top - 1, true}, {top, true}, {top + 1, false}, {math.MaxInt, false}} {
		a := api.Atlas{Groups: 1, Last: r.last, Spans: []api.Span{{Shard: 1, Epoch: 1, Group: 1}}}
		wantCheck(t, a, r.want)
		a.Spans[0].Shard = r.last
		wantCheck(t, a, r.want)
		if r.last < math.MaxInt {
			a.Spans[0].Shard = r.last + 1
			wantCheck(t, a, false)
		}
	}
	for i := range 3 {
		for _, last := range []int{6, 7, 8} {
			a := three()
			a.Last = last
			a.Spans[i].Shard, a.Spans[2].Shard = a.Spans[2].Shard, a.Spans[i].Shard // the 7 in each place
			wantCheck(t, a, last >= 7)
		}
	}
}

func TestCheckEnds(t *testing.T) {
	longest := strings.Repeat("z", api.MaxName)
	for _, key := range append([]string{"-", "a", "g", "h", "h-", "m", "p", "z", longest}, noNames...) {
		wantCheck(t, at(three(), 0, func(s *api.Span) { s.From = key }), key == "")
		wantCheck(t, at(three(), 2, func(s *api.Span) { s.To = key }), key == "")
		one := api.Atlas{Groups: 1, Last: 1, Spans: []api.Span{{Shard: 1, Epoch: 1, Group: 1}}}
		wantCheck(t, at(one, 0, func(s *api.Span) { s.From = key }), key == "")
		wantCheck(t, at(one, 0, func(s *api.Span) { s.To = key }), key == "")
		wantCheck(t, at(one, 0, func(s *api.Span) { s.From, s.To = key, key }), key == "")
		wantCheck(t, at(one, 0, func(s *api.Span) { s.From, s.To = key, key+"z" }), false)
	}
	// A From that isn't the To ahead of it.
	for i := 1; i < 3; i++ {
		ahead := three().Spans[i-1].To
		for _, key := range append([]string{"-", "g", "gz", "h", "h-", "i", "m", "o", "p", "p-", "q", longest}, noNames...) {
			wantCheck(t, at(three(), i, func(s *api.Span) { s.From = key }), key == ahead)
			wantCheck(t, at(three(), i-1, func(s *api.Span) { s.To = key }), key == ahead)
		}
	}
}

// meet is a map of three whose first or second span ends at a key, at which the next one begins.
func meet(i int, key string) api.Atlas {
	a := three()
	a.Spans[i].To, a.Spans[i+1].From = key, key
	return a
}

func TestCheckMeeting(t *testing.T) {
	for i := range 2 {
		for _, key := range noNames {
			wantCheck(t, meet(i, key), false)
		}
	}
	for key, want := range map[string]bool{"-": true, "a": true, "h": true, "i": true, "o": true, "ozzzzzzzzzzzzzzz": true, "p": false, "p-": false, "q": false, "zzzzzzzzzzzzzzzz": false} {
		wantCheck(t, meet(0, key), want)
	}
	for key, want := range map[string]bool{"-": false, "a": false, "g": false, "gzzzzzzzzzzzzzzz": false, "h": false, "h-": true, "ha": true, "p": true, "z": true, "zzzzzzzzzzzzzzzz": true} {
		wantCheck(t, meet(1, key), want)
	}
	// Spans in another order, one left out, one twice.
	for _, places := range [][]int{{0, 2}, {1, 2}, {0, 1}, {2, 1, 0}, {1, 0, 2}, {0, 2, 1}, {0, 0, 1, 2}, {0, 1, 1, 2}, {0, 1, 2, 2}} {
		a := api.Atlas{Groups: 4, Last: 9}
		for j, i := range places {
			s := three().Spans[i]
			s.Shard = j + 1
			a.Spans = append(a.Spans, s)
		}
		wantCheck(t, a, false)
	}
}

func TestCheckShards(t *testing.T) {
	for i := range 3 {
		for _, id := range []int{0, -1, 1, 3, 8, 9, 10, 11, math.MaxInt, math.MinInt, 1<<32 + 1, top, top + 1} {
			wantCheck(t, at(three(), i, func(s *api.Span) { s.Shard = id }), id >= 1 && id <= 9)
		}
	}
	for _, n := range []int{2, 3, 9, api.MaxShards} {
		for i := range n {
			for j := range n {
				wantCheck(t, at(many(n), i, func(s *api.Span) { s.Shard = many(n).Spans[j].Shard }), i == j)
			}
		}
	}
}

func TestCheckEpochs(t *testing.T) {
	for i := range 3 {
		for _, r := range []struct {
			epoch int64
			want  bool
		}{{math.MinInt64, false}, {-1, false}, {0, false}, {1, true}, {2, true}, {1 << 32, true}, {top - 2, true}, {top - 1, true}, {top, true}, {top + 1, false}, {math.MaxInt64, false}} {
			wantCheck(t, at(three(), i, func(s *api.Span) { s.Epoch = r.epoch }), r.want)
		}
	}
	for n := 1; n <= api.MaxShards; n++ { // no two need be unlike
		a := many(n)
		for i := range a.Spans {
			a.Spans[i].Epoch = top
		}
		wantCheck(t, a, true)
	}
}

// A map that isn't right, by one thing, is refused by every call.
func TestWrongMaps(t *testing.T) {
	wrong(t, api.Atlas{})
	for _, set := range []func(*api.Atlas){
		func(a *api.Atlas) { a.Groups = 0 }, func(a *api.Atlas) { a.Groups = 9 }, func(a *api.Atlas) { a.Last = 6 }, func(a *api.Atlas) { a.Last = top + 1 },
		func(a *api.Atlas) { a.Spans = nil }, func(a *api.Atlas) { a.Spans = many(17).Spans; a.Last = 40 },
		func(a *api.Atlas) { a.Spans[0].From = "a" }, func(a *api.Atlas) { a.Spans[2].To = "z" }, func(a *api.Atlas) { a.Spans[1].From = "i" }, func(a *api.Atlas) { a.Spans[1].To = "o" },
		func(a *api.Atlas) { a.Spans[1].To, a.Spans[2].From = "h", "h" }, func(a *api.Atlas) { a.Spans[0].To, a.Spans[1].From = "H", "H" },
		func(a *api.Atlas) { a.Spans[1].Shard = 0 }, func(a *api.Atlas) { a.Spans[1].Shard = 10 }, func(a *api.Atlas) { a.Spans[2].Shard = 4 },
		func(a *api.Atlas) { a.Spans[2].Epoch = 0 }, func(a *api.Atlas) { a.Spans[2].Epoch = top + 1 }, func(a *api.Atlas) { a.Spans[1].Group = 0 }, func(a *api.Atlas) { a.Spans[1].Group = 5 },
	} {
		for _, kind := range []int{0, 1, 2, 3} {
			a := three()
			if kind > 0 {
				a = planned(kind, 1)
			}
			wantCheck(t, a, true)
			set(&a)
			wrong(t, a)
		}
	}
	for _, set := range []func(*api.Plan){
		func(p *api.Plan) { p.Kind = 4 }, func(p *api.Plan) { p.Kind = 0 }, func(p *api.Plan) { p.Kind = -1 }, func(p *api.Plan) { p.Phase = 0 }, func(p *api.Plan) { p.Phase = 9 }, func(p *api.Plan) { p.Phase = 2 }, func(p *api.Plan) { p.Shard = 9 },
		func(p *api.Plan) { p.Other++ }, func(p *api.Plan) { p.Group = 1 + p.Group%2 }, func(p *api.Plan) { p.Past++ }, func(p *api.Plan) { p.Epoch++ }, func(p *api.Plan) { p.Key += "!" },
	} {
		for _, kind := range []int{1, 2, 3} {
			wrong(t, with(planned(kind, 1), set))
		}
	}
}
