package jobs_test

import (
	"fmt"
	"math"
	"slices"
	"strconv"
	"testing"

	"matins/api"
	"matins/jobs"
)

// beyond are instants, and what is none, below all occurrences and above all.
var (
	below  = []int64{math.MinInt64, math.MinInt64 + 1, -1 << 32, -1440, -2, -1}
	beyond = []int64{api.MaxTime, api.MaxTime + 1, api.MaxTime + 2, 1 << 32, math.MaxInt64 - 1, math.MaxInt64}
)

// One job, with upto below its next occurrence, at it and above it.
func TestDueOne(t *testing.T) {
	for _, u := range ends {
		j := u.job("m")
		paused := j
		paused.Paused = true
		list, held := []api.Job{j}, []api.Job{paused}
		for _, upto := range slices.Concat(below, beyond, []int64{0, 1, u.mark - 1, u.mark, u.mark + 1, u.next - 1, u.next, u.next + 1, u.next + 1440}) {
			wantDue(t, held, upto)
			if u.next >= 0 && upto >= u.next {
				wantDue(t, list, upto, launchOf(j, u.next))
			} else {
				wantDue(t, list, upto)
			}
		}
	}
}

func TestDueNone(t *testing.T) {
	for _, upto := range slices.Concat(below, beyond, []int64{0, 1440}) {
		wantDue(t, nil, upto)
		wantDue(t, []api.Job{}, upto)
		var held []api.Job
		for _, j := range table(20) {
			j.Paused = true
			held = append(held, j)
		}
		wantDue(t, held, upto)
	}
}

// By Time, of one Time by Name, with the job's own fields.
func TestDueOrder(t *testing.T) {
	a, b, c, d, e := jobOf("a", "30 * * * *", 0), jobOf("b", "10 * * * *", 0), jobOf("c", "30 * * * *", 29), jobOf("d", "10 * * * *", 9), jobOf("e", "0 * * * *", -1)
	b.Client, b.Seq, b.Token = 64, math.MaxInt64, ""
	d.Paused = true
	list := []api.Job{a, b, c, d, e}
	wantDue(t, list, -1)
	wantDue(t, list, 0, launchOf(e, 0))
	wantDue(t, list, 9, launchOf(e, 0))
	wantDue(t, list, 10, launchOf(e, 0), launchOf(b, 10))
	wantDue(t, list, 29, launchOf(e, 0), launchOf(b, 10))
	wantDue(t, list, 30, launchOf(e, 0), launchOf(b, 10), launchOf(a, 30), launchOf(c, 30))
	wantDue(t, list, api.MaxTime, launchOf(e, 0), launchOf(b, 10), launchOf(a, 30), launchOf(c, 30))
	list[3].Paused = false
	d.Paused = false
	wantDue(t, list, 10, launchOf(e, 0), launchOf(b, 10), launchOf(d, 10))
	wantDue(t, list, 9, launchOf(e, 0))
}

// Of MaxJobs jobs of few Times the names rise within each Time.
func TestDueTies(t *testing.T) {
	for _, times := range []int{1, 2, 7, 60} {
		var list []api.Job
		for i := range api.MaxJobs {
			list = append(list, jobOf(fmt.Sprintf("n%03d", i), strconv.Itoa((i*37)%times)+" * * * *", -1))
		}
		got := dueOf(t, list, 100)
		if len(got) != len(list) {
			t.Errorf("P16.2: %d launches of %d jobs", len(got), len(list))
		}
		for i := range got[1:] {
			a, b := got[i], got[i+1]
			if a.Time > b.Time || a.Time == b.Time && a.Name >= b.Name {
				t.Errorf("P16.2: %+v ahead of %+v", a, b)
			}
		}
		for upto := range int64(times) {
			dueOf(t, list, upto)
		}
	}
}

func TestDueSizes(t *testing.T) {
	for _, list := range sizes() {
		for _, upto := range slices.Concat(below, []int64{0, 1, 1440, 100000, 1000000, 10000000}) {
			dueOf(t, list, upto)
		}
	}
	for _, upto := range beyond {
		dueOf(t, table(20), upto)
	}
}

// What is due CmdLaunch takes, in that order, once each; then it isn't due any more, and what is due next comes later.
func TestDueIsLaunched(t *testing.T) {
	list := table(12)
	for round := range 4 {
		found := dueOf(t, list, api.MaxTime)
		for _, l := range found {
			c := api.Cmd{Kind: api.CmdLaunch, Name: l.Name, Client: l.Client, Seq: l.Seq, Time: l.Time}
			list, _ = must(t, list, c)
			refuse(t, list, c, api.ErrTime)
			for _, m := range dueOf(t, list, api.MaxTime) {
				if m.Name == l.Name && m.Time <= l.Time {
					t.Errorf("P16.3: round %d: %+v is due behind %+v", round, m, l)
				}
			}
		}
	}
}

// Of a job that is never due what lies above upto isn't looked at.
func BenchmarkDue(b *testing.B) {
	var list []api.Job
	for i := range api.MaxJobs {
		j := jobOf(fmt.Sprintf("n%03d", i), "0 0 30 2 *", 5000)
		j.Zone = "berlin"
		list = append(list, j)
	}
	for b.Loop() {
		jobs.Due(list, 6000)
	}
}
