package jobs_test

import (
	"fmt"
	"slices"
	"strconv"
	"testing"

	"matins/api"
	"matins/jobs"
)

const spare = 3 // places of spare room behind each list that is handed in

var (
	lentRoom  = api.Job{Name: "room", Client: -7}
	spoiltJob = api.Job{Name: "spoilt", Seq: -8}
)

// lend is a list in new memory with spare room that is filled.
func lend(list []api.Job) []api.Job {
	return slices.Concat(list, slices.Repeat([]api.Job{lentRoom}, spare))[:len(list)]
}

func lentStays(lent, list []api.Job) bool {
	return slices.Equal(lent[:len(list)+spare], slices.Concat(list, slices.Repeat([]api.Job{lentRoom}, spare)))
}

// spoil writes over a list, its spare room too: whoever shares memory with it shows that.
func spoil[T any](l []T, with T) {
	l = l[:cap(l)]
	for i := range l {
		l[i] = with
	}
}

func brief(s string) string {
	if len(s) > 60 {
		return strconv.Quote(s[:60]) + ".. of " + strconv.Itoa(len(s))
	}
	return strconv.Quote(s)
}

func toldJob(j api.Job) string {
	return fmt.Sprintf("{%s %s %s %s %d %d %t %d}", brief(j.Name), brief(j.Expr), brief(j.Zone), brief(j.Token), j.Client, j.Seq, j.Paused, j.Mark)
}

func toldJobs(list []api.Job) string {
	all := strconv.Itoa(len(list)) + " jobs"
	for _, j := range list[:min(len(list), 6)] {
		all += " " + toldJob(j)
	}
	return all
}

func toldCmd(c api.Cmd) string {
	return fmt.Sprintf("{%d %d %d %s %s %s %s %d}", c.Kind, c.Client, c.Seq, brief(c.Name), brief(c.Expr), brief(c.Zone), brief(c.Token), c.Time)
}

func toldResult(r api.Result) string {
	return fmt.Sprintf("[error %d, time %d, %s]", r.Err, r.Time, toldJobs(r.Jobs))
}

func sameResult(a, b api.Result) bool {
	return a.Err == b.Err && a.Time == b.Time && slices.Equal(a.Jobs, b.Jobs)
}

// answer is what Do answers, in memory of its own.
type answer struct {
	list   []api.Job
	result api.Result
}

func (a answer) same(b answer) bool {
	return slices.Equal(a.list, b.list) && sameResult(a.result, b.result)
}

func (a answer) told() string { return toldResult(a.result) + ", " + toldJobs(a.list) }

func copied(list []api.Job, r api.Result) answer {
	r.Jobs = slices.Clone(r.Jobs)
	return answer{slices.Clone(list), r}
}

// do calls Do, holds it against the paper, and looks whether the call leaves what it is lent, answers the same once more, and shares no memory.
func do(t testing.TB, list []api.Job, c api.Cmd) ([]api.Job, api.Result) {
	t.Helper()
	lent := lend(list)
	behind, result := jobs.Do(lent, c)
	got := copied(behind, result)
	if want := copied(paperDo(list, c)); !got.same(want) {
		t.Errorf("P16.1: Do(%s, %s):\n     %s,\nwant %s", toldJobs(list), toldCmd(c), got.told(), want.told())
	}
	again, second := jobs.Do(lent, c)
	if !lentStays(lent, list) {
		t.Errorf("rule 5: Do(%s, %s) changes what is lent: %s", toldJobs(list), toldCmd(c), toldJobs(lent[:len(list)+spare]))
	}
	spoil(lent, spoiltJob)
	spoil(result.Jobs, spoiltJob)
	if !slices.Equal(behind, got.list) {
		t.Errorf("rule 5: Do(%s, %s): the table shares memory", toldJobs(list), toldCmd(c))
	}
	spoil(behind, spoiltJob)
	if !copied(again, second).same(got) {
		t.Errorf("rules 5, 6: Do(%s, %s): once more: %s", toldJobs(list), toldCmd(c), copied(again, second).told())
	}
	spoil(again, spoiltJob)
	if !sameResult(second, got.result) {
		t.Errorf("rule 5: Do(%s, %s): the Result shares memory with the table", toldJobs(list), toldCmd(c))
	}
	return got.list, got.result
}

// must is do of a command that isn't refused.
func must(t testing.TB, list []api.Job, c api.Cmd) ([]api.Job, api.Result) {
	t.Helper()
	behind, r := do(t, list, c)
	if r.Err != api.OK {
		t.Fatalf("P16.1: Do(%s, %s): error %d", toldJobs(list), toldCmd(c), r.Err)
	}
	return behind, r
}

// refuse is do of a command that is refused: the table stays, and nothing else is told.
func refuse(t testing.TB, list []api.Job, c api.Cmd, want api.Errno) {
	t.Helper()
	behind, r := do(t, list, c)
	if !slices.Equal(behind, list) || !sameResult(r, api.Result{Err: want}) {
		t.Errorf("P16.1: Do(%s, %s): %s, %s, want error %d", toldJobs(list), toldCmd(c), toldResult(r), toldJobs(behind), want)
	}
}

// want is do of a command that makes this table and answers this.
func want(t testing.TB, list []api.Job, c api.Cmd, behind []api.Job, r api.Result) {
	t.Helper()
	gotList, gotResult := do(t, list, c)
	if got, wanted := copied(gotList, gotResult), copied(behind, r); !got.same(wanted) {
		t.Errorf("P16.1: Do(%s, %s):\n     %s,\nwant %s", toldJobs(list), toldCmd(c), got.told(), wanted.told())
	}
}

// dueOf calls Due, as do calls Do.
func dueOf(t testing.TB, list []api.Job, upto int64) []api.Launch {
	t.Helper()
	lent := lend(list)
	found := jobs.Due(lent, upto)
	got := slices.Clone(found)
	if wanted := paperDue(list, upto); !slices.Equal(got, wanted) {
		t.Errorf("P16.2: Due(%s, %d): %d launches %+v, want %d %+v", toldJobs(list), upto, len(got), got, len(wanted), wanted)
	}
	again := jobs.Due(lent, upto)
	if !lentStays(lent, list) {
		t.Errorf("rule 5: Due(%s, %d) changes what is lent", toldJobs(list), upto)
	}
	spoil(found, api.Launch{Name: "spoilt"})
	if !slices.Equal(again, got) {
		t.Errorf("rules 5, 6: Due(%s, %d): once more: %+v", toldJobs(list), upto, again)
	}
	return got
}

func wantDue(t testing.TB, list []api.Job, upto int64, want ...api.Launch) {
	t.Helper()
	if got := dueOf(t, list, upto); !slices.Equal(got, want) {
		t.Errorf("P16.2: Due(%s, %d): %+v, want %+v", toldJobs(list), upto, got, want)
	}
}

func wantCheck(t testing.TB, list []api.Job, want bool) {
	t.Helper()
	lent := lend(list)
	if got := jobs.Check(lent); got != want || paperCheck(list) != want {
		t.Errorf("P16.1: Check(%s): %t, by the paper %t, want %t", toldJobs(list), got, paperCheck(list), want)
	}
	if !lentStays(lent, list) {
		t.Errorf("rule 5: Check(%s) changes what is lent", toldJobs(list))
	}
}

// launchOf is what Due tells of a job at an instant.
func launchOf(j api.Job, at int64) api.Launch {
	return api.Launch{Name: j.Name, Client: j.Client, Seq: j.Seq, Time: at, Token: j.Token}
}

// jobOf is a right job, by its name and how often it is due in utc.
func jobOf(name, expr string, mark int64) api.Job {
	return api.Job{Name: name, Expr: expr, Zone: "utc", Token: "tok-" + name, Client: 3, Seq: 7, Mark: mark}
}

// table is so many right jobs, no two alike, some paused, with even numbers in their names.
func table(n int) []api.Job {
	exprs := []string{"* * * * *", "0 0 * * *", "30 2 * * *", "0,20,40 12 1-7 * 0-6", "0 0 30 2 *"}
	zones := []string{"utc", "berlin", "howe", "newyork"}
	var list []api.Job
	for i := range n {
		list = append(list, api.Job{
			Name: fmt.Sprintf("j%03d", 2*i), Expr: exprs[i%len(exprs)], Zone: zones[i%len(zones)], Token: fmt.Sprint("t", i),
			Client: 1 + i%64, Seq: int64(1 + i/3), Paused: i%7 == 3, Mark: int64(i*i*97 - 1),
		})
	}
	return list
}

// sizes are tables of no jobs, one, many and as many as there may be.
func sizes() [][]api.Job {
	return [][]api.Job{nil, table(1), table(2), table(20), table(255), table(256)}
}

// places are those of the first job, of the last and of some between; none, if there are no jobs.
func places(list []api.Job) []int {
	if len(list) == 0 {
		return nil
	}
	all := []int{0, len(list) / 3, len(list) / 2, len(list) - 1}
	slices.Sort(all)
	return slices.Compact(all)
}

// missing are names that no such table has: below all, between and above all.
func missing(list []api.Job) []string {
	all := []string{"-", "9999", "a", "j", "k", "zz", fmt.Sprintf("j%03d", 2*len(list)), fmt.Sprintf("j%03d", len(list)|1)}
	for _, j := range list[:min(len(list), 3)] {
		all = append(all, j.Name+"-", j.Name+"0", j.Name[:3])
	}
	return all
}

// with is a list with another job at a place.
func with(list []api.Job, i int, j api.Job) []api.Job {
	list = slices.Clone(list)
	list[i] = j
	return list
}

func without(list []api.Job, i int) []api.Job { return slices.Delete(slices.Clone(list), i, i+1) }
