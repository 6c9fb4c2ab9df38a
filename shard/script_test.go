package shard_test

import (
	"math"
	"math/rand"
	"slices"
	"sync"
	"testing"

	"matins/api"
	"matins/shard"
)

func pick[T any](r *rand.Rand, all []T) T { return all[r.Intn(len(all))] }

// some picks mostly from the first list, now and then from the second.
func some[T any](r *rand.Rand, often, seldom []T) T {
	if r.Intn(12) == 0 {
		return pick(r, seldom)
	}
	return pick(r, often)
}

var (
	names     = []string{"-", "a", "b", "bb", "c", "d", "k", "l", "m", "n", "q", "z"}
	oddNames  = []string{"", "A", "b_", "zzzzzzzzzzzzzzzzz", "m-", "a."}
	oddIds    = []int{0, -1, 99, math.MaxInt, math.MinInt}
	oddEpochs = []int64{0, -1, 1 << 40, 1<<40 + 1, math.MaxInt64, math.MinInt64}
)

// chanceShard is one of a group's shards, mostly one that isn't gone, or one that it doesn't hold.
func chanceShard(r *rand.Rand, list []api.Shard) api.Shard {
	if len(list) == 0 || r.Intn(10) == 0 {
		return bare(1+r.Intn(9), 1+r.Int63n(6), api.Serving, "", "")
	}
	if live := liveOf(list); len(live) > 0 && r.Intn(6) > 0 {
		return pick(r, live)
	}
	return pick(r, list)
}

// namesIn are the names that lie in a shard's range; all, if none does.
func namesIn(s api.Shard) []string {
	in := slices.DeleteFunc(slices.Clone(names), func(name string) bool { return !shard.In(s, name) })
	if len(in) == 0 {
		return names
	}
	return in
}

// nextTo is the shard that a shard may be merged with, or any.
func nextTo(r *rand.Rand, list []api.Shard, s api.Shard) api.Shard {
	for _, x := range list {
		if s.To != "" && x.From == s.To && x.State == api.Serving && r.Intn(8) > 0 {
			return x
		}
	}
	return chanceShard(r, list)
}

// sentShard is a shard to be installed: one that the group holds at another Epoch, or a new one; now and then it isn't right.
func sentShard(r *rand.Rand, list []api.Shard) api.Shard {
	s := copied(chanceShard(r, list))
	s.Epoch = some(r, []int64{s.Epoch, s.Epoch + 1, s.Epoch + 1, s.Epoch - 1}, oddEpochs)
	s.State = some(r, liveStates, []int{api.Gone, 0, 5})
	if r.Intn(3) == 0 {
		s.From, s.To = some(r, append(names, ""), oddNames), some(r, append(names, "", ""), oddNames)
		s.Jobs = nil
		for _, name := range names {
			if r.Intn(3) == 0 && name >= s.From && (s.To == "" || name < s.To || r.Intn(20) == 0) {
				s.Jobs = append(s.Jobs, jobOf(name))
			}
		}
	}
	return s
}

// chanceCmd is a command to a shard, mostly of a client with a number near the one that it has.
func chanceCmd(r *rand.Rand, s api.Shard) api.Cmd {
	c := api.Cmd{Kind: some(r, []int{1, 1, 1, 2, 3, 4, 5, 6, 7, 8, 8}, []int{0, 9, -1}), Name: some(r, namesIn(s), slices.Concat(oddNames, names)), Token: "t", Time: some(r, []int64{0, 100, 1440}, []int64{-1, -2, api.MaxTime, api.MaxTime + 1})}
	c.Expr, c.Zone = some(r, []string{"0 0 * * *", "*/5  * * * *"}, []string{"", "x"}), some(r, []string{"utc", "berlin"}, []string{"mars"})
	c.Client = some(r, []int{1, 2, 3, 64}, []int{0, 65, -1})
	near := int64(1)
	for _, seen := range s.Seen {
		if seen.Client == c.Client {
			near = seen.Seq
		}
	}
	c.Seq = some(r, []int64{near, near - 1, near + 1, near + 1, near + 1, near + 3}, []int64{0, -1})
	if due := shard.Due([]api.Shard{s}, 5000); c.Kind == api.CmdLaunch && len(due) > 0 && r.Intn(4) > 0 {
		c = pick(r, due).Cmd
		c.Time += pick(r, []int64{0, 0, 0, -1, 1, 1440})
	}
	return c
}

// chanceOrder is an order to a group by chance, mostly one that can be done.
func chanceOrder(r *rand.Rand, list []api.Shard, kinds []int) api.Order {
	s := chanceShard(r, list)
	o := api.Order{Kind: pick(r, kinds), Shard: s.Id, Epoch: some(r, []int64{s.Epoch}, append(oddEpochs, s.Epoch-1, s.Epoch+1))}
	o.Key = some(r, names, append(oddNames, s.From, s.To))
	o.Cmd = chanceCmd(r, s)
	past := s.Epoch
	switch o.Kind {
	case api.OrdInstall:
		o.State = sentShard(r, list)
	case api.OrdSplit:
		o.Other = some(r, []int{1 + r.Intn(9), 1 + r.Intn(99)}, append(oddIds, s.Id))
	case api.OrdMerge:
		other := nextTo(r, list, s)
		past = max(past, other.Epoch)
		o.Other, o.State.Epoch = some(r, []int{other.Id}, append(oddIds, s.Id)), some(r, []int64{other.Epoch}, oddEpochs)
	}
	o.Past = some(r, []int64{past + 1, past + 1, past + 2}, append(oddEpochs, past, past-1))
	if r.Intn(40) == 0 {
		o.Shard = pick(r, oddIds)
	}
	return o
}

// later is an order, or, now and then, one of the last few that were sent, once more.
func later(r *rand.Rand, sent []api.Order, o api.Order) api.Order {
	if len(sent) > 0 && r.Intn(6) == 0 {
		return pick(r, sent[max(0, len(sent)-5):])
	}
	return o
}

// tale is told of scripts: how often each Kind did something, how often it came again as OK, and which errors were told.
type tale struct {
	changed, idle map[int]int
	errors        map[api.Errno]int
}

func newTale() tale { return tale{map[int]int{}, map[int]int{}, map[api.Errno]int{}} }

func (s tale) add(kind int, was []api.Shard, got answer) {
	switch {
	case !sameShards(was, got.list):
		s.changed[kind]++
	case got.result.Err == api.OK:
		s.idle[kind]++
	default:
		s.errors[got.result.Err]++
	}
}

// wide fails if the scripts left out what they are there for.
func (s tale) wide(t testing.TB, kinds []int, errors []api.Errno) {
	t.Helper()
	for _, kind := range kinds {
		if s.changed[kind] < 20 || s.idle[kind] < 5 && kind != api.OrdCmd {
			t.Errorf("Kind %d: %d orders that did something, %d that didn't: the scripts are too narrow", kind, s.changed[kind], s.idle[kind])
		}
	}
	for _, err := range errors {
		if s.errors[err] < 10 {
			t.Errorf("error %d was told %d times: the scripts are too narrow", err, s.errors[err])
		}
	}
}

var allKinds = []int{api.OrdCmd, api.OrdFreeze, api.OrdThaw, api.OrdInstall, api.OrdOpen, api.OrdRetire, api.OrdSplit, api.OrdMerge}

func beginnings() [][]api.Shard {
	one := []api.Shard{bare(1, 1, api.Serving, "", "")}
	three := []api.Shard{shardOf(1, 2, api.Serving, "", "c", "a", "b"), shardOf(2, 4, api.Serving, "c", "m", "d", "k"), shardOf(5, 3, api.Serving, "m", "", "n")}
	return [][]api.Shard{nil, one, three, served(), fill(three, 14, 20), fill(three, api.MaxShards, 30), fill(one, 2, 62), fill(three, 12, api.MaxGone)}
}

// Scripts by chance: do holds each order against the paper and P18.3, and the paper's Check looks at what comes of it.
func TestScripts(t *testing.T) {
	all := newTale()
	kinds := append([]int{api.OrdCmd, api.OrdCmd, api.OrdCmd, api.OrdOpen, api.OrdThaw, api.OrdSplit, api.OrdMerge}, allKinds...)
	for seed := range int64(240) {
		r := rand.New(rand.NewSource(seed))
		begun := beginnings()
		list := begun[int(seed)%len(begun)]
		var sent []api.Order
		for range 60 {
			o := later(r, sent, chanceOrder(r, list, kinds))
			sent = append(sent, o)
			got := do(t, list, o)
			all.add(o.Kind, list, got)
			if r.Intn(8) == 0 {
				dueOf(t, list, r.Int63n(5000))
			}
			if t.Failed() {
				t.Fatalf("seed %d", seed)
			}
			list = got.list
		}
	}
	all.wide(t, allKinds, []api.Errno{api.ErrArg, api.ErrFull, api.ErrState, api.ErrExists, api.ErrMiss, api.ErrStale, api.ErrTime, api.ErrRange, api.ErrEpoch, api.ErrShard, api.ErrFrozen})
}

// number is a client's command, which is bound to it for good.
type number struct {
	client int
	seq    int64
}

// watch looks at shards alone, and holds P18.3 against them.
type watch struct {
	t    testing.TB
	done map[number]int
}

func liveOf(list []api.Shard) []api.Shard {
	return slices.DeleteFunc(slices.Clone(list), func(s api.Shard) bool { return s.State == api.Gone })
}

// jobsIn are all the jobs of a group, by their names.
func jobsIn(list []api.Shard) []api.Job {
	var all []api.Job
	for _, s := range list {
		all = append(all, s.Jobs...)
	}
	slices.SortFunc(all, func(a, b api.Job) int {
		if a.Name < b.Name {
			return -1
		}
		return 1
	})
	return all
}

// lastOf is the session of a client in a book; an empty one: it has none.
func lastOf(book []api.Seen, client int) api.Seen {
	for _, s := range book {
		if s.Client == client {
			return s
		}
	}
	return api.Seen{}
}

// command counts a command that the shard has put into its sessions.
func (w *watch) command(was, is api.Shard, c api.Cmd) {
	w.t.Helper()
	if c.Kind == api.CmdLaunch || lastOf(was.Seen, c.Client).Seq == lastOf(is.Seen, c.Client).Seq {
		return
	}
	n := number{c.Client, c.Seq}
	if w.done[n]++; w.done[n] > 1 {
		w.t.Errorf("P18.3: client %d's command %d is done %d times", c.Client, c.Seq, w.done[n])
	}
}

// keeps looks whether an order that is no command kept all jobs, and each shard the newest session that each client had in the shards it is made of.
func (w *watch) keeps(was, is []api.Shard, o api.Order) {
	w.t.Helper()
	if !slices.Equal(jobsIn(was), jobsIn(is)) {
		w.t.Errorf("P18.3: %s: %d jobs ahead, %d behind, or other ones", toldOrder(o), len(jobsIn(was)), len(jobsIn(is)))
	}
	for _, s := range liveOf(is) {
		for client := 1; client <= api.MaxClients; client++ {
			want := lastOf(of(was, s.Id).Seen, client)
			if other := lastOf(of(was, o.Other).Seen, client); o.Kind == api.OrdMerge && s.Id == o.Shard && other.Seq > want.Seq && !sameShards(was, is) {
				want = other
			}
			if o.Kind == api.OrdSplit && s.Id == o.Other && of(was, s.Id).Id == 0 {
				want = lastOf(of(was, o.Shard).Seen, client)
			}
			if got := lastOf(s.Seen, client); !sameSeen(got, want) {
				w.t.Errorf("P18.3: %s: shard %d has the session %+v, want %+v", toldOrder(o), s.Id, got, want)
			}
		}
	}
}

// covers looks whether the shards that aren't gone hold each name once, as they did.
func (w *watch) covers(list []api.Shard) {
	w.t.Helper()
	for _, name := range names {
		n := 0
		for _, s := range liveOf(list) {
			if shard.In(s, name) {
				n++
			}
		}
		if n != 1 {
			w.t.Errorf("P18.3: %d shards hold %q: %s", n, name, told(list))
		}
	}
}

// bound is the command that a client's number stands for, whenever it is sent. It is no list: what that asks for lies in many shards.
func bound(n number) api.Cmd {
	r := rand.New(rand.NewSource(int64(n.client)*1000 + n.seq))
	c := cmdAdd(n.client, n.seq, pick(r, names))
	c.Kind = pick(r, []int{api.CmdAdd, api.CmdAdd, api.CmdRemove, api.CmdPause, api.CmdResume, api.CmdGet, api.CmdNext})
	return c
}

// holder is the shard that holds a name, or now and then any.
func holder(r *rand.Rand, list []api.Shard, name string) api.Shard {
	for _, s := range list {
		if s.State != api.Gone && shard.In(s, name) && r.Intn(10) > 0 {
			return s
		}
	}
	return pick(r, list)
}

// Whatever is frozen, thawed, split and merged: each number of a client is done once at most, however often it is sent, and no job and no session is lost.
func TestOnceAndKept(t *testing.T) {
	all := newTale()
	kinds := []int{api.OrdFreeze, api.OrdThaw, api.OrdOpen, api.OrdSplit, api.OrdSplit, api.OrdMerge, api.OrdMerge}
	twice := 0
	for seed := range int64(120) {
		r := rand.New(rand.NewSource(seed))
		list := []api.Shard{bare(1, 1, api.Serving, "", "")}
		w := &watch{t, map[number]int{}}
		latest := map[int]int64{}
		var sent []api.Order
		for range 120 {
			o := later(r, sent, chanceOrder(r, list, kinds))
			if r.Intn(2) == 0 {
				client := 1 + r.Intn(4)
				n := number{client, max(1, latest[client]+1-r.Int63n(3))}
				latest[client] = max(latest[client], n.seq)
				s := holder(r, list, bound(n).Name)
				o = ordCmd(s.Id, s.Epoch, bound(n))
				if w.done[n] > 0 {
					twice++
				}
			}
			sent = append(sent, o)
			got := do(t, list, o)
			all.add(o.Kind, list, got)
			if o.Kind == api.OrdCmd {
				w.command(of(list, o.Shard), of(got.list, o.Shard), o.Cmd)
			} else {
				w.keeps(list, got.list, o)
			}
			w.covers(got.list)
			if t.Failed() {
				t.Fatalf("seed %d", seed)
			}
			list = got.list
		}
	}
	all.wide(t, []int{api.OrdCmd, api.OrdFreeze, api.OrdThaw, api.OrdSplit, api.OrdMerge}, []api.Errno{api.ErrFrozen, api.ErrStale, api.ErrRange})
	if twice < 200 {
		t.Errorf("%d commands were sent again: the scripts are too narrow", twice)
	}
}

// Many may ask of one group's shards at one time: no call writes to them.
func TestAtOneTime(t *testing.T) {
	list := fill(served(), 12, 40)
	was := copies(list)
	calls := func(i int) []answer {
		r := rand.New(rand.NewSource(int64(i)))
		var all []answer
		for range 6 {
			all = append(all, answered(shard.Do(list, chanceOrder(r, list, allKinds))))
		}
		for _, o := range shard.Due(list, int64(i)*100) {
			all = append(all, answer{result: api.Result{Time: o.Cmd.Time}, shown: bare(o.Shard, o.Epoch, o.Kind, o.Cmd.Name, "")})
		}
		return append(all, answer{result: api.Result{Time: int64(len(all))}})
	}
	got := make([][]answer, 32)
	var wait sync.WaitGroup
	for i := range got {
		wait.Go(func() { got[i] = calls(i) })
	}
	wait.Wait()
	if !sameShards(list, was) {
		t.Error("rule 5: the shards were changed")
	}
	for i := range got {
		if !slices.EqualFunc(got[i], calls(i), answer.same) {
			t.Errorf("rule 6: script %d is answered otherwise at one time", i)
		}
	}
}
