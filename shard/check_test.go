package shard_test

import (
	"math"
	"slices"
	"strings"
	"testing"

	"matins/api"
)

// noKeys are texts that are no keys.
var noKeys = []string{"A", " ", "a b", "ä", "a\x00", "a_", "a\n", "\xff", "aM", strings.Repeat("a", api.MaxName+1), strings.Repeat("a", api.MaxText)}

func TestCheckCounts(t *testing.T) {
	wantCheck(t, nil, true)
	wantCheck(t, []api.Shard{}, true)
	wantCheck(t, []api.Shard{{Id: 1, Epoch: 1, State: api.Serving}}, true)
	wantCheck(t, []api.Shard{{}}, false)
	for _, r := range []struct {
		live, all int
		want      bool
	}{
		{0, 1, true}, {0, 63, true}, {0, api.MaxGone, true}, {0, api.MaxGone + 1, false}, {0, 200, false},
		{1, 1, true}, {1, api.MaxGone, true}, {1, api.MaxGone + 1, false},
		{15, 15, true}, {api.MaxShards, api.MaxShards, true}, {api.MaxShards, 17, true}, {api.MaxShards, 63, true}, {api.MaxShards, api.MaxGone, true}, {api.MaxShards, api.MaxGone + 1, false},
		{api.MaxShards + 1, 17, false}, {api.MaxShards + 1, 18, false}, {api.MaxShards + 1, api.MaxGone, false}, {40, 40, false}, {api.MaxGone, api.MaxGone, false}, {api.MaxGone + 1, 65, false},
	} {
		wantCheck(t, fill(nil, r.live, r.all), r.want)
	}
	// Wherever among the gone ones the live ones stand, and in whichever states, they are counted.
	for _, state := range []int{api.Serving, api.Frozen, api.Held} {
		for first := range 64 - 16 {
			list := fill(nil, 0, 64)
			for i := range 16 {
				list[first+i].State = state
			}
			wantCheck(t, list, true)
			list[(first+16)%64].State = state
			wantCheck(t, list, false)
		}
	}
}

func TestCheckIds(t *testing.T) {
	for _, list := range [][]api.Shard{fill(nil, 2, 2), fill(nil, 16, 20), fill(nil, 0, 64), fill(nil, 1, 3)} {
		for i := range list[1:] {
			falls := slices.Clone(list)
			falls[i].Id, falls[i+1].Id = falls[i+1].Id, falls[i].Id
			wantCheck(t, falls, false)
			twice := slices.Clone(list)
			twice[i].Id = twice[i+1].Id
			wantCheck(t, twice, false)
			gone := slices.Clone(list)
			gone[i+1] = api.Shard{Id: list[i].Id, Epoch: 9, State: api.Gone}
			wantCheck(t, gone, false)
		}
		slices.Reverse(list)
		wantCheck(t, list, false)
	}
	for _, r := range []struct {
		ids  []int
		want bool
	}{
		{[]int{1, 2, 3}, true}, {[]int{1, 3, 9}, true}, {[]int{5}, true}, {[]int{1, math.MaxInt}, true}, {[]int{1, 1 << 33}, true}, {[]int{1 << 32, 1<<32 + 1}, true},
		{[]int{0, 1}, false}, {[]int{-1, 1}, false}, {[]int{1, 1}, false}, {[]int{2, 1}, false}, {[]int{1, 3, 2}, false}, {[]int{1, 2, 1}, false}, {[]int{math.MaxInt, math.MinInt}, false}, {[]int{1 << 33, 2}, false},
	} {
		var list []api.Shard
		for _, id := range r.ids {
			list = append(list, api.Shard{Id: id, Epoch: 1, State: api.Held})
		}
		wantCheck(t, list, r.want)
	}
}

// trial is a shard with whether it is right.
type trial struct {
	s    api.Shard
	want bool
}

func setters[T any](set func(*api.Shard, T), want bool, values ...T) []trial {
	var all []trial
	for _, v := range values {
		for _, state := range []int{api.Serving, api.Frozen, api.Held, api.Gone} {
			s := shardOf(3, 5, state, "b", "y", "b", "m")
			set(&s, v)
			all = append(all, trial{s, want})
		}
	}
	return all
}

// trials are shards with each field just inside and just outside what is right.
func trials() []trial {
	id := func(s *api.Shard, n int) { s.Id = n }
	epoch := func(s *api.Shard, n int64) { s.Epoch = n }
	from := func(s *api.Shard, k string) { s.From, s.To, s.Jobs = k, "", nil }
	to := func(s *api.Shard, k string) { s.To, s.Jobs = k, nil }
	state := func(s *api.Shard, n int) { s.State, s.Jobs, s.Seen = n, nil, nil }
	return slices.Concat(
		setters(id, true, 1, 2, 64, 65, 1<<40, math.MaxInt), setters(id, false, 0, -1, math.MinInt, -1<<32+1),
		setters(epoch, true, 1, 2, 1<<32, 1<<40-1, 1<<40), setters(epoch, false, 0, -1, 1<<40+1, 1<<41, math.MaxInt64, math.MinInt64),
		setters(state, true, 1, 2, 3, 4), setters(state, false, 0, 5, -1, 6, 1<<32+1, math.MaxInt, math.MinInt),
		setters(from, true, "", "-", "a", "zzz", strings.Repeat("z", api.MaxName)), setters(from, false, noKeys...),
		setters(to, true, "", "b-", "c", "z", "b"+strings.Repeat("z", api.MaxName-1)), setters(to, false, noKeys...),
		setters(to, false, "b", "a", "azz", "-", "9"),
	)
}

// Each shard alone, and the first, the last and between others.
func TestCheckFields(t *testing.T) {
	for _, c := range trials() {
		wantCheck(t, []api.Shard{c.s}, c.want)
		if c.s.Id != 3 {
			continue
		}
		wantCheck(t, []api.Shard{c.s, shardOf(4, 1, api.Serving, "", "")}, c.want)
		wantCheck(t, []api.Shard{shardOf(2, 1, api.Serving, "", ""), c.s}, c.want)
		wantCheck(t, []api.Shard{shardOf(1, 1, api.Gone, "", ""), shardOf(2, 1, api.Held, "a", "b"), c.s, shardOf(9, 1, api.Frozen, "", "")}, c.want)
	}
}

// liveStates are the states of shards that aren't gone.
var liveStates = []int{api.Serving, api.Frozen, api.Held}

func TestCheckJobs(t *testing.T) {
	for _, r := range []struct {
		from, to string
		names    []string
		want     bool
	}{
		{"", "", []string{"-", "a", "zzzz"}, true},
		{"b", "", []string{"b", "zzzz"}, true},
		{"b", "", []string{"azzz", "c"}, false},
		{"b", "", []string{"b-"}, true},
		{"", "m", []string{"-", "lzzzzzzzzzzzzzzz"}, true},
		{"", "m", []string{"a", "m"}, false},
		{"", "m", []string{"a", "m-"}, false},
		{"b", "m", []string{"b", "c", "lz"}, true},
		{"b", "m", []string{"a", "c", "lz"}, false},
		{"b", "m", []string{"b", "c", "m"}, false},
		{"b", "m", []string{"b", "c", "n"}, false},
		{"b", "m", []string{"a"}, false},
		{"b", "m", []string{"m"}, false},
		{"b", "b-", []string{"b"}, true},
		{"b", "b-", []string{"b-"}, false},
		{"b", "m", []string{"d", "c"}, false}, // the rest are no tables
		{"b", "m", []string{"c", "c"}, false},
		{"b", "m", []string{"c", "dD"}, false},
		{"b", "m", numbered("c", api.MaxJobs), true},
		{"b", "m", numbered("c", api.MaxJobs+1), false},
	} {
		for _, state := range liveStates {
			wantCheck(t, []api.Shard{shardOf(1, 1, state, r.from, r.to, r.names...)}, r.want)
		}
		gone := shardOf(1, 1, api.Gone, r.from, r.to)
		gone.Jobs = jobsOf(r.names...)
		wantCheck(t, []api.Shard{gone}, false)
	}
	for _, set := range []func(*api.Job){
		func(j *api.Job) { j.Expr = "0  0 * * *" }, func(j *api.Job) { j.Zone = "mars" }, func(j *api.Job) { j.Token = strings.Repeat("t", 33) },
		func(j *api.Job) { j.Client = 65 }, func(j *api.Job) { j.Seq = 0 }, func(j *api.Job) { j.Mark = -2 },
	} {
		for i := range 3 {
			s := shardOf(1, 1, api.Serving, "", "", "a", "b", "c")
			set(&s.Jobs[i])
			wantCheck(t, []api.Shard{s}, false)
			wantCheck(t, []api.Shard{s, shardOf(2, 1, api.Serving, "", "", "a")}, false)
			s.Id = 3
			wantCheck(t, []api.Shard{shardOf(2, 1, api.Serving, "", "", "a"), s}, false)
		}
	}
}

func TestCheckSessions(t *testing.T) {
	full := func() []api.Seen {
		var book []api.Seen
		for c := range api.MaxClients {
			book = append(book, seenOf(c+1, 1, c))
		}
		return book
	}
	for _, r := range []struct {
		book []api.Seen
		want bool
	}{
		{nil, true}, {[]api.Seen{}, true}, {full(), true}, {append(full(), seenOf(65, 1, 1)), false},
		{[]api.Seen{{Client: 1, Seq: 1}}, true}, {[]api.Seen{{Client: 64, Seq: math.MaxInt64}}, true},
		{[]api.Seen{{Client: 0, Seq: 1}}, false}, {[]api.Seen{{Client: 65, Seq: 1}}, false}, {[]api.Seen{{Client: 1, Seq: 0}}, false}, {[]api.Seen{{Client: 1, Seq: -1}}, false}, {[]api.Seen{{}}, false},
		{[]api.Seen{{Client: 1, Seq: 1}, {Client: 1, Seq: 2}}, false}, {[]api.Seen{{Client: 2, Seq: 1}, {Client: 1, Seq: 2}}, false},
		{[]api.Seen{{Client: 1, Seq: 1, Result: api.Result{Err: -5, Time: math.MinInt64, Jobs: []api.Job{{Name: "A"}, {}}}}}, true}, // a Result may be any
	} {
		for _, state := range liveStates {
			s := shardOf(1, 1, state, "", "", "a")
			s.Seen = r.book
			wantCheck(t, []api.Shard{s}, r.want)
		}
		gone := shardOf(1, 1, api.Gone, "", "")
		gone.Seen = r.book
		wantCheck(t, []api.Shard{gone}, len(r.book) == 0)
		gone.Jobs = jobsOf("a")
		wantCheck(t, []api.Shard{gone}, false)
	}
}

// The ranges of a group's shards may be any: what lies where, the map says.
func TestCheckRangesMayMeet(t *testing.T) {
	wantCheck(t, []api.Shard{shardOf(1, 1, api.Serving, "", "", "a"), shardOf(2, 1, api.Serving, "", "", "a"), shardOf(3, 1, api.Held, "a", "b", "a"), shardOf(4, 9, api.Gone, "a", "b")}, true)
}

func TestIn(t *testing.T) {
	last := strings.Repeat("z", api.MaxName)
	for _, r := range []struct {
		from, to string
		in, out  []string
	}{
		{"", "", []string{"-", ".", "0", "a", "m", "z", last}, nil},
		{"m", "", []string{"m", "m-", "ma", "n", "z", last}, []string{"-", "a", "l", "lz", "lzzzzzzzzzzzzzzz"}},
		{"", "m", []string{"-", "0", "a", "l", "lz", "lzzzzzzzzzzzzzzz"}, []string{"m", "m-", "ma", "n", "z", last}},
		{"b", "m", []string{"b", "b-", "c", "l", "lz"}, []string{"-", "a", "azzzzzzzzzzzzzzz", "m", "m-", "n", last}},
		{"b", "b-", []string{"b"}, []string{"a", "b-", "b.", "ba", "c"}},
		{"a9", "aa", []string{"a9", "a9-", "a9z"}, []string{"a", "a8", "a-", "aa", "ab", "b"}},
		{last, "", []string{last}, []string{"z", "zzzzzzzzzzzzzzz", "a"}},
		{"", "-", nil, []string{"-", "--", ".", "a"}},
		{"m", "m", nil, []string{"l", "m", "m-", "n", "a"}},
		{"m", "b", nil, []string{"a", "b", "c", "l", "m", "n", "z"}},
		{"m", "l", nil, []string{"l", "m", "lz", "z"}},
	} {
		for _, s := range []api.Shard{{From: r.from, To: r.to}, shardOf(1, 1, api.Serving, r.from, r.to), shardOf(0, -1, 9, r.from, r.to, "q"), shardOf(1, 1, api.Gone, r.from, r.to)} {
			for _, name := range r.in {
				wantIn(t, s, name, true)
			}
			for _, name := range append(r.out, "") {
				wantIn(t, s, name, false)
			}
			for _, name := range noKeys {
				wantIn(t, s, name, false)
			}
		}
	}
	for _, key := range noKeys {
		for _, name := range []string{"a", "b", "m", "z", "", key} {
			wantIn(t, api.Shard{From: key}, name, false)
			wantIn(t, api.Shard{To: key}, name, false)
			wantIn(t, api.Shard{From: key, To: "z"}, name, false)
			wantIn(t, api.Shard{From: "a", To: key}, name, false)
			wantIn(t, api.Shard{From: key, To: key}, name, false)
		}
	}
}

// noGroups are lists that Check refuses, each by one thing.
func noGroups() [][]api.Shard {
	all := [][]api.Shard{{{}}, fill(nil, 17, 17), fill(nil, 0, 65), fill(nil, 16, 65), {shardOf(2, 1, 1, "", ""), shardOf(1, 1, 1, "", "")}, {shardOf(1, 1, 1, "", ""), shardOf(1, 1, 4, "", "")}}
	for _, c := range trials() {
		if !c.want {
			all = append(all, []api.Shard{c.s}, []api.Shard{shardOf(1, 1, api.Serving, "", "", "a"), c.s})
		}
	}
	all = append(all, []api.Shard{shardOf(1, 1, api.Serving, "b", "", "a")}, []api.Shard{shardOf(1, 1, api.Serving, "", "", "b", "a")})
	s := shardOf(1, 1, api.Serving, "", "", "a")
	s.Seen[0].Client = 0
	return append(all, []api.Shard{s})
}

// Of a list that Check refuses: no shards, and ErrState, whatever the order is; and nothing is due.
func TestNoGroups(t *testing.T) {
	for _, list := range noGroups() {
		wantCheck(t, list, false)
		for kind := -1; kind <= 9; kind++ {
			for _, o := range []api.Order{
				{Kind: kind}, {Kind: kind, Shard: 1, Epoch: 1, Other: 7, Past: 2, Key: "m", Cmd: cmdAdd(1, 1, "a"), State: shardOf(9, 1, api.Held, "", "")},
				{Kind: kind, Shard: 99, Epoch: -1, Past: -1, Cmd: api.Cmd{Kind: api.CmdList}},
			} {
				if got := do(t, list, o); !got.same(answer{result: api.Result{Err: api.ErrState}}) {
					t.Errorf("P18.1: Do(%s, %s): %s", told(list), toldOrder(o), got.told())
				}
			}
		}
		for _, upto := range []int64{-1, 5000, api.MaxTime, math.MaxInt64} {
			if got := dueOf(t, list, upto); len(got) != 0 {
				t.Errorf("P18.2: Due(%s, %d): %+v", told(list), upto, got)
			}
		}
	}
}
