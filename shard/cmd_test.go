package shard_test

import (
	"math"
	"slices"
	"strings"
	"testing"

	"matins/api"
	"matins/jobs"
	"matins/seat"
)

func cmdAdd(client int, seq int64, name string) api.Cmd {
	return api.Cmd{Kind: api.CmdAdd, Client: client, Seq: seq, Name: name, Expr: "0  0 * * *", Zone: "utc", Token: "tok", Time: 100}
}

func cmdOf(kind, client int, seq int64, name string) api.Cmd {
	return api.Cmd{Kind: kind, Client: client, Seq: seq, Name: name, Expr: "0 0 * * *", Zone: "utc", Time: 100}
}

func launchOf(j api.Job, at int64) api.Cmd {
	return api.Cmd{Kind: api.CmdLaunch, Client: j.Client, Seq: j.Seq, Name: j.Name, Time: at}
}

func ordCmd(id int, epoch int64, c api.Cmd) api.Order {
	return api.Order{Kind: api.OrdCmd, Shard: id, Epoch: epoch, Cmd: c}
}

// wantCmd is do of a command that is done: the jobs and the Result are those of jobs.Do with a command, and the Result is kept, unless the command is a launch.
func wantCmd(t testing.TB, list []api.Shard, o api.Order, asked api.Cmd) answer {
	t.Helper()
	s := copied(of(list, o.Shard))
	behind, r := jobs.Do(s.Jobs, asked)
	s.Jobs = behind
	if asked.Kind != api.CmdLaunch {
		s.Seen = slices.DeleteFunc(s.Seen, func(x api.Seen) bool { return x.Client == asked.Client })
		s.Seen = append(s.Seen, api.Seen{Client: asked.Client, Seq: asked.Seq, Result: r})
		slices.SortFunc(s.Seen, func(a, b api.Seen) int { return a.Client - b.Client })
	}
	want := answer{list: with(list, s), result: r}
	got := do(t, list, o)
	if !got.same(want) {
		t.Errorf("P18.1: Do(%s,\n%s):\n     %s,\nwant %s", told(list), toldOrder(o), got.told(), want.told())
	}
	return got
}

// served is a group whose shard 2, at 5, serves b to m among others.
func served() []api.Shard {
	paused := jobOf("k")
	paused.Paused = true
	s := shardOf(2, 5, api.Serving, "b", "m", "b", "c", "d", "lzz")
	s.Jobs = slices.Insert(s.Jobs, 3, paused)
	return []api.Shard{shardOf(1, 5, api.Serving, "", "b", "a", "aa"), s, shardOf(3, 5, api.Frozen, "m", "", "m", "n"), shardOf(4, 5, api.Held, "m", "", "m"), shardOf(6, 5, api.Gone, "b", "m")}
}

func TestCmdKinds(t *testing.T) {
	list := served()
	for kind := -1; kind <= 10; kind++ {
		for _, name := range []string{"b", "c", "e", "k", "lzz", "lzzzzzzzzzzzzzzz"} {
			c := cmdOf(kind, 3, 1, name)
			wantCmd(t, list, ordCmd(2, 5, c), c)
			c = cmdOf(kind, 2, 99, name)
			if kind == api.CmdLaunch {
				c = launchOf(jobOf(name), 1440)
			}
			wantCmd(t, list, ordCmd(2, 5, c), c)
		}
	}
	for _, kind := range []int{math.MinInt, math.MaxInt, 1 << 32, 1<<32 + 1, 1<<32 + 7, 256 + 8} {
		c := cmdOf(kind, 3, 1, "c")
		wantCmd(t, list, ordCmd(2, 5, c), c)
		refuse(t, list, ordCmd(2, 5, cmdOf(kind, 3, 1, "a")), api.ErrRange)
	}
}

// A Name that isn't in the range is refused ahead of all that hangs on the client, but for CmdList.
func TestCmdRange(t *testing.T) {
	list := served()
	out := append([]string{"", "-", "a", "azzzzzzzzzzzzzzz", "m", "m-", "n", "zz"}, noKeys...)
	for kind := -1; kind <= 10; kind++ {
		if kind == api.CmdList {
			continue
		}
		for _, name := range out {
			for _, c := range []api.Cmd{cmdOf(kind, 3, 1, name), cmdOf(kind, 0, 1, name), cmdOf(kind, 2, 1, name), cmdOf(kind, 2, 12, name), cmdOf(kind, 5, 4, name)} {
				refuse(t, list, ordCmd(2, 5, c), api.ErrRange)
			}
		}
		for _, c := range []api.Cmd{cmdOf(kind, 3, 1, "a"), cmdOf(kind, 3, 1, "azzz"), cmdOf(kind, 3, 1, "-")} {
			wantCmd(t, list, ordCmd(1, 5, c), c)
		}
		refuse(t, list, ordCmd(1, 5, cmdOf(kind, 3, 1, "b")), api.ErrRange)
	}
}

// A list is asked from any text on, but not below the shard's range.
func TestCmdList(t *testing.T) {
	many := shardOf(2, 5, api.Serving, "c", "m", numbered("d", 40)...)
	for _, list := range [][]api.Shard{served(), {shardOf(1, 1, api.Serving, "", ""), many}} {
		from := of(list, 2).From
		for _, name := range append([]string{"", "-", "a", "b", "b-", "c", "d", "d020", "d039", "d04", "l", "lzz", "m", "z", "zz"}, noKeys...) {
			c := cmdOf(api.CmdList, 3, 1, name)
			asked := c
			if name < from {
				asked.Name = from
			}
			wantCmd(t, list, ordCmd(2, 5, c), asked)
			refuse(t, list, ordCmd(2, 5, cmdOf(api.CmdList, 65, 1, name)), api.ErrArg)
			refuse(t, list, ordCmd(2, 5, cmdOf(api.CmdList, 2, 11, name)), api.ErrStale)
		}
	}
	got := must(t, []api.Shard{many}, ordCmd(2, 5, cmdOf(api.CmdList, 3, 1, "a")))
	if len(got.result.Jobs) != api.MaxList || got.result.Jobs[0].Name != "d000" {
		t.Errorf("P18.1: CmdList: %s", got.told())
	}
	// No job lies below From, so that it can't be told from a Name below it; what is kept is what was answered.
	if kept := of(got.list, 2).Seen[1]; kept.Client != 3 || kept.Seq != 1 || !sameResult(kept.Result, got.result) {
		t.Errorf("P18.1: CmdList: kept %+v", kept)
	}
}

func TestCmdErrorsInOrder(t *testing.T) {
	base := func() scene { return scene{served(), ordCmd(2, 5, cmdOf(api.CmdGet, 2, 50, "c"))} }
	inOrder(t, base, []fault{
		noShard(2),
		{api.ErrEpoch, wrongEpochs},
		{api.ErrFrozen, []func(*scene){state(2, api.Frozen), state(2, api.Held)}},
		{api.ErrRange, orders(func(o *api.Order, name string) { o.Cmd.Name = name }, "a", "m", "", "C")},
		{api.ErrArg, append(orders(func(o *api.Order, n int) { o.Cmd.Client = n }, 0, 65, -1, math.MaxInt, math.MinInt), orders(func(o *api.Order, n int64) { o.Cmd.Seq = n }, 0, -1, math.MinInt64)...)},
	})
	inOrder(t, base, []fault{
		noShard(2),
		{api.ErrEpoch, wrongEpochs},
		{api.ErrFrozen, []func(*scene){state(2, api.Frozen), state(2, api.Held)}},
		{api.ErrRange, orders(func(o *api.Order, name string) { o.Cmd.Name = name }, "a", "m", "", "C")},
		{api.ErrStale, orders(func(o *api.Order, n int64) { o.Cmd.Seq = n }, 1, 10, 11)},
	})
	launch := func() scene { return scene{served(), ordCmd(2, 5, launchOf(jobOf("c"), 1440))} }
	inOrder(t, launch, []fault{
		noShard(2),
		{api.ErrEpoch, wrongEpochs},
		{api.ErrFrozen, []func(*scene){state(2, api.Frozen), state(2, api.Held)}},
		{api.ErrRange, orders(func(o *api.Order, name string) { o.Cmd.Name = name }, "a", "m", "", "C")},
		{api.ErrStale, orders(func(o *api.Order, n int) { o.Cmd.Client = n }, 0, 1, 65)},
		{api.ErrTime, orders(func(o *api.Order, n int64) { o.Cmd.Time = n }, 0, 1439, 1441, 2880, math.MaxInt64, -1)},
	})
}

// A launch is no client's command: it is done whatever the sessions say, and isn't kept.
func TestCmdLaunch(t *testing.T) {
	list := served()
	j := jobOf("c")
	for _, book := range [][]api.Seen{nil, {seenOf(j.Client, j.Seq, 1)}, {seenOf(j.Client, j.Seq+1, 1)}, {seenOf(j.Client, j.Seq-1, 1)}, {seenOf(64, 1, 1)}} {
		s := copied(of(list, 2))
		s.Seen = book
		here := with(list, s)
		got := wantCmd(t, here, ordCmd(2, 5, launchOf(j, 1440)), launchOf(j, 1440))
		if got.result.Err != api.OK || got.result.Time != 1440 || len(got.result.Jobs) != 1 || got.result.Jobs[0].Mark != 1440 || !sameBook(of(got.list, 2).Seen, book) {
			t.Errorf("P18.1: CmdLaunch: %s", got.told())
		}
		refuse(t, got.list, ordCmd(2, 5, launchOf(j, 1440)), api.ErrTime)
		must(t, got.list, ordCmd(2, 5, launchOf(j, 2880)))
	}
	refuse(t, list, ordCmd(2, 5, launchOf(jobOf("k"), 1440)), api.ErrState)
	refuse(t, list, ordCmd(2, 5, launchOf(jobOf("e"), 1440)), api.ErrMiss)
	refuse(t, list, ordCmd(2, 5, launchOf(api.Job{Name: "c", Client: j.Client, Seq: j.Seq + 1}, 1440)), api.ErrStale)
	refuse(t, list, ordCmd(2, 5, launchOf(api.Job{Name: "c"}, 1440)), api.ErrStale)
	refuse(t, list, ordCmd(2, 5, launchOf(jobOf("m"), 1440)), api.ErrRange)
}

// Sent again with the same number any command is told what was kept, whatever it asks by now; with a lesser one it is stale; with a greater one it is done.
func TestCmdAgain(t *testing.T) {
	for first := 1; first <= 9; first++ {
		if first == api.CmdLaunch {
			continue
		}
		for _, name := range []string{"c", "e", "k"} {
			list := served()
			c := cmdOf(first, 2, 40, name)
			got := wantCmd(t, list, ordCmd(2, 5, c), c)
			for kind := range 10 {
				if kind == api.CmdLaunch {
					continue
				}
				for _, later := range []string{"b", "c", "e", name} {
					kept := do(t, got.list, ordCmd(2, 5, cmdOf(kind, 2, 40, later)))
					if !kept.same(answer{list: got.list, result: got.result}) {
						t.Errorf("P18.3: kind %d on %q, then %d on %q with the same number: %s", first, name, kind, later, kept.told())
					}
					for _, seq := range []int64{1, 12, 39} {
						refuse(t, got.list, ordCmd(2, 5, cmdOf(kind, 2, seq, later)), api.ErrStale)
					}
					for _, seq := range []int64{41, 1 << 40, math.MaxInt64} {
						c := cmdOf(kind, 2, seq, later)
						wantCmd(t, got.list, ordCmd(2, 5, c), c)
					}
					for _, client := range []int{1, 3, 64} {
						c := cmdOf(kind, client, 40, later)
						wantCmd(t, got.list, ordCmd(2, 5, c), c)
					}
				}
			}
		}
	}
}

// What a session holds is told as it is, be it what no command answers.
func TestCmdKept(t *testing.T) {
	for _, r := range []api.Result{{}, {Err: api.ErrFull}, {Err: -3, Time: math.MinInt64, Jobs: []api.Job{{Name: "A"}, {}, jobOf("q")}}, {Time: 5}, {Jobs: jobsOf(numbered("d", 40)...)}} {
		list := served()
		list[1].Seen = []api.Seen{{Client: 7, Seq: 3, Result: r}}
		for kind := range 10 {
			if kind == api.CmdLaunch {
				continue
			}
			if got := do(t, list, ordCmd(2, 5, cmdOf(kind, 7, 3, "c"))); !got.same(answer{list: list, result: r}) {
				t.Errorf("P18.1: kept %s: %s", toldResult(r), got.told())
			}
		}
	}
}

// An error is kept too: what was refused once isn't done later under the same number.
func TestCmdErrorsAreKept(t *testing.T) {
	list := []api.Shard{{Id: 1, Epoch: 1, State: api.Serving}}
	got := do(t, list, ordCmd(1, 1, cmdOf(api.CmdRemove, 3, 1, "a")))
	if got.result.Err != api.ErrMiss || len(got.list[0].Seen) != 1 || got.list[0].Seen[0].Result.Err != api.ErrMiss {
		t.Errorf("P18.3: %s", got.told())
	}
	got = must(t, got.list, ordCmd(1, 1, cmdAdd(4, 1, "a")))
	behind := do(t, got.list, ordCmd(1, 1, cmdOf(api.CmdRemove, 3, 1, "a")))
	if behind.result.Err != api.ErrMiss || !sameShards(behind.list, got.list) {
		t.Errorf("P18.3: the same number is done later: %s", behind.told())
	}
	for _, c := range []struct {
		cmd api.Cmd
		err api.Errno
	}{
		{cmdOf(9, 5, 1, "a"), api.ErrArg}, {cmdOf(0, 5, 1, "a"), api.ErrArg}, {cmdAdd(5, 1, "a"), api.ErrExists}, {cmdOf(api.CmdResume, 5, 1, "a"), api.ErrState},
		{api.Cmd{Kind: api.CmdAdd, Client: 5, Seq: 1, Name: "b", Expr: "x", Zone: "utc"}, api.ErrSyntax}, {api.Cmd{Kind: api.CmdAdd, Client: 5, Seq: 1, Name: "b", Expr: "* * * * *", Zone: "mars"}, api.ErrZone},
		{api.Cmd{Kind: api.CmdAdd, Client: 5, Seq: 1, Name: "b", Token: strings.Repeat("t", 33)}, api.ErrArg},
	} {
		done := wantCmd(t, got.list, ordCmd(1, 1, c.cmd), c.cmd)
		r, e := seat.Look(of(done.list, 1).Seen, 5, 1)
		if e != api.OK || r.Err != c.err || done.result.Err != c.err {
			t.Errorf("P18.3: %+v: %s", c.cmd, done.told())
		}
	}
}

func TestCmdFull(t *testing.T) {
	list := []api.Shard{shardOf(1, 1, api.Serving, "", "", numbered("j", api.MaxJobs)...), shardOf(2, 1, api.Serving, "", "", "a")}
	c := cmdAdd(3, 1, "a")
	if got := wantCmd(t, list, ordCmd(1, 1, c), c); got.result.Err != api.ErrFull {
		t.Errorf("P18.1: a job more than there may be: %s", got.told())
	}
	c = cmdOf(api.CmdRemove, 3, 1, "j000")
	got := wantCmd(t, list, ordCmd(1, 1, c), c)
	c = cmdAdd(3, 2, "a")
	if got = wantCmd(t, got.list, ordCmd(1, 1, c), c); got.result.Err != api.OK {
		t.Errorf("P18.1: %s", got.told())
	}
}
