package jobs_test

import (
	"fmt"
	"math"
	"math/rand"
	"slices"
	"strings"
	"sync"
	"testing"

	"matins/api"
	"matins/cron"
	"matins/due"
	"matins/jobs"
	"matins/zone"
)

// life is one job, from the command that adds it to the one that removes it.
type life struct {
	expr, zone string
	client     int
	seq        int64
	added      int64
	last       int64 // the Time of the last launch, or added
	launches   []int64
	pauses     []int64 // up to which it was paused, by resumes
	paused     bool
}

// watch looks at answers alone, and holds P16.3 against them.
type watch struct {
	t     testing.TB
	lives map[string]*life
}

func (w *watch) see(c api.Cmd, r api.Result) {
	w.t.Helper()
	if r.Err != api.OK {
		return
	}
	l := w.lives[c.Name]
	switch c.Kind {
	case api.CmdAdd:
		if l != nil {
			w.t.Errorf("P16.1: %q is added twice", c.Name)
		}
		w.lives[c.Name] = &life{expr: c.Expr, zone: c.Zone, client: c.Client, seq: c.Seq, added: c.Time, last: c.Time}
	case api.CmdRemove:
		delete(w.lives, c.Name)
	case api.CmdPause:
		l.paused = true
	case api.CmdResume:
		l.paused = false
		l.pauses = append(l.pauses, c.Time)
	case api.CmdLaunch:
		w.launch(l, c)
	}
}

func (w *watch) launch(l *life, c api.Cmd) {
	w.t.Helper()
	if l == nil || l.client != c.Client || l.seq != c.Seq {
		w.t.Fatalf("P16.3: %s is launched, which isn't there", toldCmd(c))
	}
	x, _, _ := cron.Parse(l.expr)
	z, _ := zone.Named(l.zone)
	switch {
	case l.paused:
		w.t.Errorf("P16.3: %s is launched while it is paused", toldCmd(c))
	case c.Time <= l.last:
		w.t.Errorf("P16.3: %s is launched at %d behind %d, added at %d", toldCmd(c), c.Time, l.last, l.added)
	case !due.Is(x, z.Rules(), c.Time):
		w.t.Errorf("P16.3: %s is launched at no occurrence", toldCmd(c))
	}
	for _, upto := range l.pauses {
		if c.Time <= upto {
			w.t.Errorf("P16.3: %s is launched at %d, but was paused up to %d", toldCmd(c), c.Time, upto)
		}
	}
	l.last = c.Time
	l.launches = append(l.launches, c.Time)
}

func pick[T any](r *rand.Rand, all []T) T { return all[r.Intn(len(all))] }

// some picks mostly from the first list, now and then from the second.
func some[T any](r *rand.Rand, often, seldom []T) T {
	if r.Intn(15) == 0 {
		return pick(r, seldom)
	}
	return pick(r, often)
}

var (
	scriptExprs = []string{"* * * * *", "*/5 * * * *", "0 * * * *", "0  0 * * *", "30 2 * * *", "17 3 * * 1-5", "0 0 13 * 5", " 59 23 * * 7", "0 0 1 1 *"}
	badExprs    = []string{"x", "", "60 * * * *", "* * * *", strings.Repeat(" ", 257), "0 0 30 2 *"}
	badTimes    = []int64{-2, -1, api.MaxTime, api.MaxTime + 1, math.MaxInt64, math.MinInt64, api.MaxTime - 1, api.MaxTime - 61}
)

// chance is a command by chance, near an instant; often one that fits a job that is there.
func chance(r *rand.Rand, list []api.Job, names []string, now int64) api.Cmd {
	times := []int64{now, now - 1, now + 1, now + r.Int63n(3000), now - r.Int63n(3000), 0}
	c := api.Cmd{
		Kind: some(r, []int{1, 1, 2, 3, 4, 4, 5, 6, 7, 8, 8, 8}, []int{0, 9, -1, 1 << 32}), Client: some(r, []int{1, 2, 3}, []int{0, 64, 65, -1}), Seq: some(r, []int64{1, 2, 3}, []int64{0, -1, math.MaxInt64}),
		Name: some(r, names, []string{"", "A", "q", strings.Repeat("n", 17)}), Expr: some(r, scriptExprs, badExprs), Zone: some(r, zone.Names(), noZones[:4]), Token: some(r, []string{"", "t", "tok"}, []string{strings.Repeat("t", 32), strings.Repeat("t", 33)}),
		Time: some(r, times, badTimes),
	}
	if len(list) == 0 || r.Intn(3) == 0 {
		return c
	}
	j := pick(r, list)
	if c.Name = j.Name; c.Kind != api.CmdLaunch {
		return c
	}
	if r.Intn(6) > 0 {
		c.Client, c.Seq = j.Client, j.Seq
	}
	if next, e := paperNext(j); e == api.OK && r.Intn(5) > 0 {
		c.Time = next
	}
	return c
}

// script does commands by chance, each held against the paper, with what is due between.
func script(t testing.TB, seed int64, steps int, names []string) {
	r := rand.New(rand.NewSource(seed))
	w := &watch{t, map[string]*life{}}
	var list []api.Job
	now := some(r, []int64{-1, 0, 28530000, 28832400, r.Int63n(api.MaxTime)}, []int64{api.MaxTime - 5000, api.MaxTime - 100})
	for range steps {
		c := chance(r, list, names, min(max(now, 0), api.MaxTime))
		var result api.Result
		list, result = do(t, list, c)
		w.see(c, result)
		if !jobs.Check(list) {
			t.Fatalf("P16.1: seed %d: behind %s no table: %s", seed, toldCmd(c), toldJobs(list))
		}
		if r.Intn(10) == 0 {
			now += r.Int63n(4000)
			list = runDue(t, w, list, now, r.Intn(8))
		}
		if t.Failed() {
			t.Fatalf("seed %d", seed)
		}
	}
	w.hold(list)
}

// runDue launches the first of what is due.
func runDue(t testing.TB, w *watch, list []api.Job, upto int64, most int) []api.Job {
	found := dueOf(t, list, upto)
	for _, l := range found[:min(len(found), most)] {
		c := api.Cmd{Kind: api.CmdLaunch, Name: l.Name, Client: l.Client, Seq: l.Seq, Time: l.Time}
		var r api.Result
		list, r = must(t, list, c)
		w.see(c, r)
	}
	return list
}

// hold looks whether the jobs that are there are those that the answers told of.
func (w *watch) hold(list []api.Job) {
	w.t.Helper()
	if len(list) != len(w.lives) {
		w.t.Errorf("P16.1: %d jobs, but %d were added and not removed", len(list), len(w.lives))
	}
	for _, j := range list {
		l := w.lives[j.Name]
		if l == nil || l.client != j.Client || l.seq != j.Seq || l.paused != j.Paused || j.Mark < l.last {
			w.t.Errorf("P16.3: %s, but the answers told %+v", toldJob(j), l)
		}
	}
}

func TestScripts(t *testing.T) {
	few := []string{"a", "b", "m", "z"}
	var many []string
	for i := range 300 {
		many = append(many, fmt.Sprint("n", i))
	}
	for seed := range int64(300) {
		script(t, seed, 150, few)
	}
	for seed := range int64(30) {
		script(t, 1000+seed, 200, many)
	}
}

// Near MaxJobs, where jobs are refused for want of room and come again.
func TestScriptsNearFull(t *testing.T) {
	for seed := range int64(6) {
		r := rand.New(rand.NewSource(seed))
		w := &watch{t, map[string]*life{}}
		var list []api.Job
		var names []string
		for i := range 270 {
			names = append(names, fmt.Sprint("n", i))
		}
		for _, i := range r.Perm(254) {
			c := addOf(names[i])
			var result api.Result
			list, result = must(t, list, c)
			w.see(c, result)
		}
		for range 150 {
			c := chance(r, list, names, 5000)
			if r.Intn(2) == 0 {
				c = addOf(pick(r, names))
			}
			var result api.Result
			list, result = do(t, list, c)
			w.see(c, result)
		}
		w.hold(list)
	}
}

// A job that is driven by Due alone is launched at each of its occurrences, once; what falls into a pause is left out.
func TestEachOccurrenceOnce(t *testing.T) {
	const (
		added    = 28528500 // 2024-03-29 11:00, ahead of the night in which berlin's clocks are turned
		pauseAt  = added + 2500
		resumeAt = added + 3500
		end      = added + 6000
	)
	for _, expr := range slices.Concat(scriptExprs[2:7], []string{"*/15 1-3 * * *", "*/7 * 31 * *"}) {
		for _, in := range zone.Names() {
			w := &watch{t, map[string]*life{}}
			var list []api.Job
			step := func(c api.Cmd) {
				var r api.Result
				list, r = must(t, list, c)
				w.see(c, r)
			}
			c := addOf("m")
			c.Expr, c.Zone, c.Time = expr, in, added
			step(c)
			list = drain(t, w, list, pauseAt)
			step(named(api.CmdPause, "m"))
			wantDue(t, list, resumeAt)
			step(timed(api.CmdResume, "m", resumeAt))
			list = drain(t, w, list, end)
			wanted := slices.Concat(occurrences(t, expr, in, added, pauseAt), occurrences(t, expr, in, resumeAt, end))
			if got := w.lives["m"].launches; !slices.Equal(got, wanted) {
				t.Errorf("P16.3: %q in %s: launched at %v, want %v", expr, in, got, wanted)
			}
		}
	}
}

// drain launches what is due until nothing is.
func drain(t testing.TB, w *watch, list []api.Job, upto int64) []api.Job {
	for len(jobs.Due(list, upto)) > 0 {
		list = runDue(t, w, list, upto, 1)
		if t.Failed() {
			t.FailNow()
		}
	}
	return list
}

// occurrences are looked for minute by minute.
func occurrences(t testing.TB, expr, in string, from, to int64) []int64 {
	t.Helper()
	c, _, errC := cron.Parse(expr)
	z, errZ := zone.Named(in)
	if errC != api.OK || errZ != api.OK {
		t.Fatalf("layers 5, 6: %q in %q: %d, %d", expr, in, errC, errZ)
	}
	var all []int64
	for at := from + 1; at <= to; at++ {
		if m, e := z.Local(at); e == api.OK && cron.Fits(c, m) {
			all = append(all, at)
		}
	}
	return all
}

// Many may ask of one list at one time: no call writes to it.
func TestAtOneTime(t *testing.T) {
	list := table(60)
	var cmds []api.Cmd
	for i, j := range list {
		c := launchCmd(j, j.Mark+1)
		c.Kind = 1 + i%9
		c.Expr, c.Zone = "0 0 * * *", "utc"
		cmds = append(cmds, c)
	}
	got := make([]answer, len(cmds))
	found := make([][]api.Launch, len(cmds))
	var wait sync.WaitGroup
	for i := range cmds {
		wait.Go(func() {
			got[i] = copied(jobs.Do(list, cmds[i]))
			found[i] = jobs.Due(list, int64(i)*1000)
		})
	}
	wait.Wait()
	if !slices.Equal(list, table(60)) {
		t.Error("rule 5: the list was changed")
	}
	for i, c := range cmds {
		if want := copied(paperDo(list, c)); !got[i].same(want) {
			t.Errorf("rule 6: %s: %s, want %s", toldCmd(c), got[i].told(), want.told())
		}
		if want := paperDue(list, int64(i)*1000); !slices.Equal(found[i], want) {
			t.Errorf("rule 6: Due at %d: %+v, want %+v", i*1000, found[i], want)
		}
	}
}
