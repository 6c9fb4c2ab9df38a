package jobs_test

import (
	"math"
	"math/bits"
	"slices"
	"strings"
	"testing"

	"matins/api"
	"matins/jobs"
)

func addOf(name string) api.Cmd {
	return api.Cmd{Kind: api.CmdAdd, Client: 1, Seq: 1, Name: name, Expr: "0 0 * * *", Zone: "utc", Token: "tok", Time: 100}
}

func named(kind int, name string) api.Cmd { return api.Cmd{Kind: kind, Name: name} }

func timed(kind int, name string, at int64) api.Cmd {
	return api.Cmd{Kind: kind, Name: name, Time: at}
}

func launchCmd(j api.Job, at int64) api.Cmd {
	return api.Cmd{Kind: api.CmdLaunch, Name: j.Name, Client: j.Client, Seq: j.Seq, Time: at}
}

func TestChapterExamples(t *testing.T) {
	list, r := must(t, nil, api.Cmd{Kind: api.CmdAdd, Client: 1, Seq: 1, Name: "a", Expr: "0  0 * * *", Zone: "utc", Token: "tok", Time: 100})
	job := api.Job{Name: "a", Expr: "0 0 * * *", Zone: "utc", Token: "tok", Client: 1, Seq: 1, Mark: 100}
	if !slices.Equal(list, []api.Job{job}) || !sameResult(r, one(job)) {
		t.Errorf("P16.1: CmdAdd: %s, %s", toldJobs(list), toldResult(r))
	}
	want(t, list, named(api.CmdNext, "a"), list, api.Result{Time: 1440})
	refuse(t, list, api.Cmd{Kind: api.CmdLaunch, Name: "a", Client: 1, Seq: 2, Time: 1440}, api.ErrStale)
	list, _ = must(t, list, launchCmd(job, 1440))
	job.Mark = 1440
	if !slices.Equal(list, []api.Job{job}) {
		t.Errorf("P16.1: CmdLaunch: %s", toldJobs(list))
	}
	refuse(t, list, launchCmd(job, 1440), api.ErrTime)
	list, _ = must(t, list, named(api.CmdPause, "a"))
	refuse(t, list, named(api.CmdPause, "a"), api.ErrState)
	refuse(t, list, launchCmd(job, 2880), api.ErrState)
	list, _ = must(t, list, timed(api.CmdResume, "a", 5000))
	job.Mark = 5000
	if !slices.Equal(list, []api.Job{job}) {
		t.Errorf("P16.1: CmdResume: %s", toldJobs(list))
	}
	want(t, list, named(api.CmdNext, "a"), list, api.Result{Time: 5760})
	wantDue(t, list, 6000, api.Launch{Name: "a", Client: 1, Seq: 1, Time: 5760, Token: "tok"})
	refuse(t, list, addOf("a"), api.ErrExists)
	for _, r := range []struct {
		name, expr, zone string
		want             api.Errno
	}{{"b", "x", "utc", api.ErrSyntax}, {"b", "0 0 * * *", "mars", api.ErrZone}, {"A", "0 0 * * *", "utc", api.ErrArg}} {
		c := addOf(r.name)
		c.Expr, c.Zone = r.expr, r.zone
		refuse(t, list, c, r.want)
	}
}

// Each field of CmdAdd at its limits: the job has it as it is, but for Expr, which is printed.
func TestAddFields(t *testing.T) {
	for _, f := range fields() {
		if f.name == "Paused" {
			continue
		}
		for _, set := range f.right {
			j := jobOf("m", "0 0 * * *", 100)
			set(&j)
			want(t, nil, adds(j), []api.Job{j}, one(j))
			list := []api.Job{jobOf("a", "* * * * *", 5), jobOf("z", "* * * * *", 6)}
			want(t, list, adds(j), slices.Insert(slices.Clone(list), 1, j), one(j))
		}
	}
	for _, text := range otherTexts {
		j := jobOf("m", text, 100)
		printed, _ := printedExpr(text)
		r := j
		r.Expr = printed
		want(t, nil, adds(j), []api.Job{r}, one(r))
	}
	for _, name := range []string{"-", ".", "0", "a", "z", strings.Repeat("z", api.MaxName)} {
		j := jobOf(name, "0 0 * * *", 100)
		want(t, nil, adds(j), []api.Job{j}, one(j))
	}
}

// adds is the command that adds a job.
func adds(j api.Job) api.Cmd {
	return api.Cmd{Kind: api.CmdAdd, Client: j.Client, Seq: j.Seq, Name: j.Name, Expr: j.Expr, Zone: j.Zone, Token: j.Token, Time: j.Mark}
}

func TestAddPlaces(t *testing.T) {
	for _, list := range sizes() {
		for _, name := range missing(list) {
			j := jobOf(name, "0 0 * * *", 100)
			if len(list) == api.MaxJobs {
				refuse(t, list, adds(j), api.ErrFull)
				continue
			}
			place := 0
			for place < len(list) && list[place].Name < name {
				place++
			}
			want(t, list, adds(j), slices.Insert(slices.Clone(list), place, j), one(j))
		}
		for _, i := range places(list) {
			refuse(t, list, addOf(list[i].Name), api.ErrExists)
		}
	}
}

func TestAddRefused(t *testing.T) {
	for _, list := range sizes() {
		for _, f := range fields() {
			for i, set := range f.wrong {
				j := jobOf("m", "0 0 * * *", 100)
				set(&j)
				switch {
				case f.name == "Zone":
					refuse(t, list, adds(j), api.ErrZone)
				case f.name != "Expr":
					refuse(t, list, adds(j), api.ErrArg)
				case i >= len(otherTexts):
					refuse(t, list, adds(j), wrongTexts[i-len(otherTexts)].err)
				}
			}
		}
		for _, name := range []string{"", "A", "a b", "ä", "a\x00", strings.Repeat("a", api.MaxName+1), strings.Repeat("a", api.MaxText)} {
			refuse(t, list, addOf(name), api.ErrArg)
		}
	}
}

// Of any faults at once the first one in the chapter's order is told.
func TestAddErrorsInOrder(t *testing.T) {
	faults := []struct {
		err   api.Errno
		spoil func(*api.Cmd)
	}{
		{api.ErrArg, func(c *api.Cmd) { c.Name = "A" }},
		{api.ErrArg, func(c *api.Cmd) { c.Token = strings.Repeat("t", api.MaxToken+1) }},
		{api.ErrArg, func(c *api.Cmd) { c.Client = 0 }},
		{api.ErrArg, func(c *api.Cmd) { c.Seq = 0 }},
		{api.ErrArg, func(c *api.Cmd) { c.Time = -2 }},
		{api.ErrLong, func(c *api.Cmd) { c.Expr = strings.Repeat(" ", 257) }},
		{api.ErrSyntax, func(c *api.Cmd) { c.Expr = "x" }},
		{api.ErrField, func(c *api.Cmd) { c.Expr = "60 * * * *" }},
		{api.ErrZone, func(c *api.Cmd) { c.Zone = "mars" }},
	}
	full, few := table(api.MaxJobs), table(3)
	for set := range 1 << len(faults) {
		if bits.OnesCount(uint(set>>5&7)) > 1 {
			continue // an Expr has one error
		}
		c, first := addOf("m"), api.OK
		there := addOf(full[1].Name)
		for i, f := range faults {
			if set>>i&1 == 0 {
				continue
			}
			f.spoil(&c)
			f.spoil(&there)
			if first == api.OK {
				first = f.err
			}
		}
		if first == api.OK {
			refuse(t, full, c, api.ErrFull)
			refuse(t, full, there, api.ErrExists)
			refuse(t, few, there, api.ErrExists)
			continue
		}
		for _, list := range [][]api.Job{nil, few, full} {
			refuse(t, list, c, first)
			refuse(t, list, there, first)
		}
	}
}

// Of a name that isn't there each command but CmdAdd and CmdList says so, ahead of all else.
func TestMissing(t *testing.T) {
	for _, list := range sizes() {
		for _, name := range append(missing(list), "", "A", "J000", "j000\x00", strings.Repeat("j", api.MaxText)) {
			for _, kind := range []int{api.CmdRemove, api.CmdPause, api.CmdResume, api.CmdGet, api.CmdNext, api.CmdLaunch} {
				refuse(t, list, named(kind, name), api.ErrMiss)
				refuse(t, list, api.Cmd{Kind: kind, Name: name, Client: -1, Seq: -1, Time: -2}, api.ErrMiss)
			}
		}
	}
}

func TestRemoveAndGet(t *testing.T) {
	for _, list := range sizes()[1:] {
		for i, j := range list {
			if len(list) > 20 && !slices.Contains(places(list), i) {
				continue
			}
			want(t, list, named(api.CmdGet, j.Name), list, one(j))
			want(t, list, named(api.CmdRemove, j.Name), without(list, i), one(j))
			refuse(t, without(list, i), named(api.CmdRemove, j.Name), api.ErrMiss)
			refuse(t, without(list, i), named(api.CmdGet, j.Name), api.ErrMiss)
		}
	}
}

func TestRemoveAll(t *testing.T) {
	for _, pick := range []func(n int) int{func(int) int { return 0 }, func(n int) int { return n - 1 }, func(n int) int { return n / 2 }} {
		list := table(40)
		for len(list) > 0 {
			i := pick(len(list))
			j := list[i]
			want(t, list, named(api.CmdRemove, j.Name), without(list, i), one(j))
			list, _ = must(t, list, named(api.CmdRemove, j.Name))
		}
	}
}

func TestPause(t *testing.T) {
	for _, list := range sizes()[1:] {
		for _, i := range places(list) {
			j := list[i]
			j.Paused = false
			paused := j
			paused.Paused = true
			want(t, with(list, i, j), named(api.CmdPause, j.Name), with(list, i, paused), one(paused))
			refuse(t, with(list, i, paused), named(api.CmdPause, j.Name), api.ErrState)
		}
	}
}

func TestResume(t *testing.T) {
	for _, list := range sizes()[1:] {
		for _, i := range places(list) {
			for _, mark := range []int64{-1, 0, 700, api.MaxTime} {
				j := list[i]
				j.Paused, j.Mark = false, mark
				paused := j
				paused.Paused = true
				for _, at := range []int64{-1, 0, 1, 699, 700, 701, api.MaxTime - 1, api.MaxTime} {
					r := j
					if at > mark {
						r.Mark = at
					}
					want(t, with(list, i, paused), timed(api.CmdResume, j.Name, at), with(list, i, r), one(r))
					refuse(t, with(list, i, j), timed(api.CmdResume, j.Name, at), api.ErrState)
				}
				for _, at := range []int64{-2, -3, api.MaxTime + 1, math.MaxInt64, math.MinInt64, 1 << 32, -1 << 32} {
					refuse(t, with(list, i, paused), timed(api.CmdResume, j.Name, at), api.ErrArg)
					refuse(t, with(list, i, j), timed(api.CmdResume, j.Name, at), api.ErrState)
				}
			}
		}
	}
}

// upcoming is a job with its next occurrence; none: -1.
type upcoming struct {
	expr, zone string
	mark, next int64
}

// ends are jobs at the edges of the instants, and some between.
var ends = []upcoming{
	{"* * * * *", "utc", -1, 0},
	{"* * * * *", "utc", 0, 1},
	{"* * * * *", "utc", api.MaxTime - 2, api.MaxTime - 1},
	{"* * * * *", "utc", api.MaxTime - 1, api.MaxTime},
	{"* * * * *", "utc", api.MaxTime, -1},
	{"0 0 * * *", "utc", -1, 0},
	{"0 0 * * *", "utc", 0, 1440},
	{"0 0 * * *", "utc", 1439, 1440},
	{"0 0 * * *", "utc", 1440, 2880},
	{"0 0 * * *", "utc", api.MaxTime - 1440, api.MaxTime - 1439},
	{"0 0 * * *", "utc", api.MaxTime - 1439, -1},
	{"59 23 31 12 *", "utc", api.MaxTime - 1, api.MaxTime},
	{"59 23 31 12 *", "utc", api.MaxTime, -1},
	{"0 0 30 2 *", "utc", -1, -1},
	{"0 0 30 2 *", "berlin", 5000, -1},
	{"0 0 29 2 *", "utc", 66356640, 70561440}, // from 2096-03-01 to 2104-02-29
	// Ahead of UTC the last minutes have no local minute, behind it the first ones.
	{"* * * * *", "berlin", api.MaxTime - 61, api.MaxTime - 60},
	{"* * * * *", "berlin", api.MaxTime - 60, -1},
	{"* * * * *", "berlin", api.MaxTime - 1, -1},
	{"* * * * *", "nepal", api.MaxTime - 346, api.MaxTime - 345},
	{"* * * * *", "nepal", api.MaxTime - 345, -1},
	{"* * * * *", "newyork", -1, 300},
	{"* * * * *", "newyork", api.MaxTime - 1, api.MaxTime},
	{"0 0 * * *", "newyork", -1, 300},
	{"30 2 * * *", "berlin", 28530000, 28532190},
	{"30 2 * * *", "berlin", 28832400, 28833150},
	{"30 2 * * *", "berlin", 28833150, 28833210},
	{"30 2 * * *", "berlin", 28833210, 28834650},
}

func (u upcoming) job(name string) api.Job {
	j := jobOf(name, u.expr, u.mark)
	j.Zone = u.zone
	return j
}

// around are tables with a job at the first place, the last, between, and alone.
func around(j api.Job) [][]api.Job {
	below, above := jobOf("a", "*/2 * * * *", 17), jobOf("z", "* * * * *", 18)
	below.Expr, _ = printedExpr(below.Expr)
	return [][]api.Job{{j}, {j, above}, {below, j}, {below, j, above}}
}

func TestNext(t *testing.T) {
	for _, u := range ends {
		for _, paused := range []bool{false, true} {
			j := u.job("m")
			j.Paused = paused
			for _, list := range around(j) {
				if u.next < 0 {
					refuse(t, list, named(api.CmdNext, "m"), api.ErrNone)
				} else {
					want(t, list, named(api.CmdNext, "m"), list, api.Result{Time: u.next})
				}
			}
		}
	}
}

// notNext are instants, and what is none, that aren't a job's next occurrence.
func notNext(u upcoming) []int64 {
	all := []int64{
		-2, -1, 0, 1, u.mark - 1, u.mark, u.mark + 1, u.next - 1, u.next + 1, u.next + 1440, u.next - 1440, u.next + 60, u.next + 1<<32, u.next - 1<<32, -u.next,
		api.MaxTime - 60, api.MaxTime - 1, api.MaxTime, api.MaxTime + 1, api.MaxTime + 2, 1 << 32, math.MaxInt64, math.MaxInt64 - 1, math.MinInt64, math.MinInt64 + 1,
	}
	if u.next < 0 {
		return all
	}
	return slices.DeleteFunc(all, func(at int64) bool { return at == u.next })
}

func TestLaunch(t *testing.T) {
	for _, u := range ends {
		j := u.job("m")
		for _, list := range around(j) {
			for _, at := range notNext(u) {
				refuse(t, list, launchCmd(j, at), api.ErrTime)
			}
			if u.next < 0 {
				continue
			}
			i := slices.Index(list, j)
			r := j
			r.Mark = u.next
			behind, _ := must(t, list, launchCmd(j, u.next))
			want(t, list, launchCmd(j, u.next), with(list, i, r), api.Result{Time: u.next, Jobs: []api.Job{r}})
			refuse(t, behind, launchCmd(j, u.next), api.ErrTime)
		}
	}
}

// Another Client or Seq is told ahead of a pause, and that ahead of the Time.
func TestLaunchErrorsInOrder(t *testing.T) {
	for _, list := range sizes()[1:] {
		for _, i := range places(list) {
			j := list[i]
			next, _ := paperNext(j)
			for _, paused := range []bool{false, true} {
				j.Paused = paused
				list := with(list, i, j)
				for _, at := range []int64{next, next + 1, -2, math.MaxInt64} {
					c := launchCmd(j, at)
					for _, d := range []struct {
						client int
						seq    int64
					}{{1, 0}, {-1, 0}, {0, 1}, {0, -1}, {1, 1}, {-1, 1}, {1 << 32, 0}, {0, 1 << 32}, {-j.Client, 0}, {0, -j.Seq}, {0, math.MaxInt64 - j.Seq}} {
						stale := c
						stale.Client += d.client
						stale.Seq += d.seq
						refuse(t, list, stale, api.ErrStale)
					}
					switch {
					case paused:
						refuse(t, list, c, api.ErrState)
					case at != next:
						refuse(t, list, c, api.ErrTime)
					}
				}
			}
		}
	}
}

// behindName is what CmdList tells, counted from the place of the first name.
func behindName(list []api.Job, place int) api.Result {
	return api.Result{Jobs: list[place:min(place+api.MaxList, len(list))]}
}

func TestList(t *testing.T) {
	for _, n := range []int{0, 1, 15, 16, 17, 33, api.MaxJobs} {
		list := table(n)
		for _, first := range []string{"", "\x00", "-", "A", "J000", "a", "i~", "j", "j0", "j000"} {
			want(t, list, named(api.CmdList, first), list, behindName(list, 0))
		}
		for _, last := range []string{"k", "j999", "z", "zzzzzzzzzzzzzzzzzzz", "~", "\x7f", "ä", "\xff", "\xff\xff", "j\xff", strings.Repeat("z", api.MaxText+1)} {
			want(t, list, named(api.CmdList, last), list, api.Result{})
		}
		for i, j := range list {
			want(t, list, named(api.CmdList, j.Name), list, behindName(list, i))
			for _, more := range []string{"\x00", " ", "-", "0", "\xff", strings.Repeat("a", 20)} {
				want(t, list, named(api.CmdList, j.Name+more), list, behindName(list, i+1))
			}
			below := j.Name[:3] + string(j.Name[3]-1) + "~"
			want(t, list, named(api.CmdList, below), list, behindName(list, i))
		}
	}
}

// Fields that a command doesn't name play no part.
func TestFieldsWithoutPart(t *testing.T) {
	garble := []struct {
		not   []int // the Kinds that name the field
		spoil []func(*api.Cmd)
	}{
		{[]int{api.CmdAdd, api.CmdLaunch}, []func(*api.Cmd){func(c *api.Cmd) { c.Client = 65 }, func(c *api.Cmd) { c.Client = math.MinInt }, func(c *api.Cmd) { c.Client = 5 }}},
		{[]int{api.CmdAdd, api.CmdLaunch}, []func(*api.Cmd){func(c *api.Cmd) { c.Seq = -1 }, func(c *api.Cmd) { c.Seq = math.MaxInt64 }, func(c *api.Cmd) { c.Seq = 5 }}},
		{[]int{api.CmdAdd}, []func(*api.Cmd){func(c *api.Cmd) { c.Expr = "x" }, func(c *api.Cmd) { c.Expr = strings.Repeat("*", 70000) }, func(c *api.Cmd) { c.Expr = "1 1 1 1 1" }}},
		{[]int{api.CmdAdd}, []func(*api.Cmd){func(c *api.Cmd) { c.Zone = "mars" }, func(c *api.Cmd) { c.Zone = strings.Repeat("z", 70000) }, func(c *api.Cmd) { c.Zone = "howe" }}},
		{[]int{api.CmdAdd}, []func(*api.Cmd){func(c *api.Cmd) { c.Token = strings.Repeat("t", 33) }, func(c *api.Cmd) { c.Token = "other" }}},
		{[]int{api.CmdAdd, api.CmdResume, api.CmdLaunch}, []func(*api.Cmd){func(c *api.Cmd) { c.Time = -2 }, func(c *api.Cmd) { c.Time = math.MaxInt64 }, func(c *api.Cmd) { c.Time = 5 }}},
	}
	run := jobOf("m", "* * * * *", 5)
	held := run
	held.Paused = true
	for kind := api.CmdRemove; kind <= api.CmdLaunch; kind++ {
		for _, j := range []api.Job{run, held} {
			for _, list := range around(j) {
				c := launchCmd(j, 6)
				c.Kind = kind
				behind, r := do(t, list, c)
				all := c
				for _, g := range garble {
					if slices.Contains(g.not, kind) {
						continue
					}
					for _, spoil := range g.spoil {
						spoilt := c
						spoil(&spoilt)
						spoil(&all)
						want(t, list, spoilt, behind, r)
						want(t, list, all, behind, r)
					}
				}
			}
		}
	}
}

func TestOtherKinds(t *testing.T) {
	for _, list := range sizes() {
		for _, kind := range []int{math.MinInt, math.MinInt32, -1<<32 + 1, -9, -8, -2, -1, 0, 9, 10, 16, 17, 255, 256, 257, 264, 1<<32 + 1, 1<<32 + 8, 1 << 32, math.MaxInt32, math.MaxInt} {
			c := addOf("m")
			c.Kind = kind
			refuse(t, list, c, api.ErrArg)
			refuse(t, list, api.Cmd{Kind: kind}, api.ErrArg)
			for _, i := range places(list) {
				c := launchCmd(list[i], 5)
				c.Kind = kind
				refuse(t, list, c, api.ErrArg)
			}
		}
	}
}

// A job that is removed and added again is another one: what was to be launched of the first is stale.
func TestAddedAgain(t *testing.T) {
	for _, r := range []struct {
		client int
		seq    int64
	}{{3, 8}, {3, 6}, {4, 7}, {4, 8}, {2, 1}} {
		first := jobOf("m", "0 0 * * *", 100)
		second := first
		second.Client, second.Seq, second.Mark = r.client, r.seq, 50
		for _, list := range around(first) {
			i := slices.Index(list, first)
			list, _ = must(t, list, launchCmd(first, 1440))
			refuse(t, list, adds(second), api.ErrExists)
			list, _ = must(t, list, named(api.CmdRemove, "m"))
			refuse(t, list, launchCmd(first, 2880), api.ErrMiss)
			list, _ = must(t, list, adds(second))
			if list[i] != second {
				t.Errorf("P16.1: added again: %s, want %s", toldJob(list[i]), toldJob(second))
			}
			for _, at := range []int64{1440, 2880} {
				refuse(t, list, launchCmd(first, at), api.ErrStale)
			}
			list, _ = must(t, list, launchCmd(second, 1440))
			refuse(t, list, launchCmd(second, 1440), api.ErrTime)
			list, _ = must(t, list, launchCmd(second, 2880))
			refuse(t, list, launchCmd(first, 4320), api.ErrStale)
		}
	}
}

// A table of as many jobs as there may be takes one more as soon as one is gone.
func TestFullAndBack(t *testing.T) {
	var list []api.Job
	for _, j := range table(api.MaxJobs) {
		j.Paused = false
		list, _ = jobs.Do(list, adds(j))
	}
	if len(list) != api.MaxJobs || !jobs.Check(list) {
		t.Fatalf("P16.1: %s", toldJobs(list))
	}
	for _, i := range places(list) {
		gone := list[i]
		refuse(t, list, addOf("m"), api.ErrFull)
		refuse(t, list, addOf(gone.Name), api.ErrExists)
		list, _ = must(t, list, named(api.CmdRemove, gone.Name))
		list, _ = must(t, list, addOf("m"))
		refuse(t, list, adds(gone), api.ErrFull)
		list, _ = must(t, list, named(api.CmdRemove, "m"))
		list, _ = must(t, list, adds(gone))
	}
}
