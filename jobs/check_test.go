package jobs_test

import (
	"fmt"
	"math"
	"slices"
	"strings"
	"testing"

	"matins/api"
	"matins/cron"
	"matins/jobs"
	"matins/zone"
)

func wantNamed(t testing.TB, s string, want bool) {
	t.Helper()
	if got := jobs.Named(s); got != want || paperNamed(s) != want {
		t.Errorf("P16.1: Named(%s): %t, by the paper %t, want %t", brief(s), got, paperNamed(s), want)
	}
}

func TestNamedBytes(t *testing.T) {
	for b := range 256 {
		want := 'a' <= b && b <= 'z' || '0' <= b && b <= '9' || b == '-' || b == '.'
		s := string([]byte{byte(b)})
		for _, around := range [][2]string{{"", ""}, {"", "a"}, {"a", ""}, {"a9-", ".z"}, {"", "aaaaaaaaaaaaaaa"}, {"aaaaaaaaaaaaaaa", ""}} {
			wantNamed(t, around[0]+s+around[1], want)
		}
	}
	for _, s := range []string{"a-9.z", "-", ".", "..", "0", "9", "az09-.", "a.b-c", "0000000000000000", "zzzzzzzzzzzzzzzz"} {
		wantNamed(t, s, true)
	}
	for _, s := range []string{"", " ", "A", "a b", "a\x00", "ä", "aä", "a_b", "a\xff", "\xc3", "a/b", "\U0001f600", "job\n"} {
		wantNamed(t, s, false)
	}
}

func TestNamedLengths(t *testing.T) {
	for _, piece := range []string{"a", "z", "0", "-", "."} {
		for n := range 300 {
			wantNamed(t, strings.Repeat(piece, n), n >= 1 && n <= api.MaxName)
		}
		wantNamed(t, strings.Repeat(piece, api.MaxText), false)
		wantNamed(t, strings.Repeat(piece, api.MaxText+1), false)
	}
}

func TestCheckLengths(t *testing.T) {
	wantCheck(t, nil, true)
	wantCheck(t, []api.Job{}, true)
	for _, n := range []int{1, 2, 3, 16, 17, 255, api.MaxJobs} {
		wantCheck(t, table(n), true)
	}
	for _, n := range []int{api.MaxJobs + 1, api.MaxJobs + 2, 499} {
		wantCheck(t, table(n), false)
	}
}

func TestCheckNames(t *testing.T) {
	for _, n := range []int{2, 3, 20, api.MaxJobs} {
		list := table(n)
		for _, i := range places(list[1:]) {
			twice := slices.Clone(list)
			twice[i+1].Name = twice[i].Name
			wantCheck(t, twice, false)
			falls := slices.Clone(list)
			falls[i].Name, falls[i+1].Name = falls[i+1].Name, falls[i].Name
			wantCheck(t, falls, false)
			swapped := slices.Clone(list)
			swapped[i], swapped[i+1] = swapped[i+1], swapped[i]
			wantCheck(t, swapped, false)
			same := slices.Clone(list)
			same[i+1] = same[i]
			wantCheck(t, same, false)
		}
		slices.Reverse(list)
		wantCheck(t, list, false)
	}
	for _, r := range []struct {
		names []string
		want  bool
	}{
		{[]string{"-", ".", "0", "9", "a", "z"}, true},
		{[]string{"a", "aa", "aaa", "ab", "b"}, true},
		{[]string{"a", "a-", "a.", "a0", "aa"}, true},
		{[]string{"aa", "a"}, false},
		{[]string{"a", "9"}, false},
		{[]string{"j10", "j9"}, true},
		{[]string{"j9", "j10"}, false},
		{[]string{"a", "b", "a"}, false},
		{[]string{"a", "b", "b"}, false},
		{[]string{"a", "c", "b", "d"}, false},
		{[]string{"a.", "a-"}, false},
		{[]string{strings.Repeat("z", 15), strings.Repeat("z", 16)}, true},
	} {
		var list []api.Job
		for _, name := range r.names {
			list = append(list, jobOf(name, "* * * * *", 0))
		}
		wantCheck(t, list, r.want)
	}
}

// longest is what is printed of the expression with the longest text.
const longest = "0-1,3-4,6-7,9-10,12-13,15-16,18-19,21-22,24-25,27-28,30-31,33-34,36-37,39-40,42-43,45-46,48-49,51-52,54-55,57-58 " +
	"0-1,3-4,6-7,9-10,12-13,15-16,18-19,21-22 1-2,4-5,7-8,10-11,13-14,16-17,19-20,22-23,25-26,28-29,31 1-2,4-5,7-8,10-11 0-1,3-4,6"

// printedTexts are what cron.Print prints of some expression.
var printedTexts = []string{
	"* * * * *", "0 0 * * *", "59 23 31 12 6", "0 0 30 2 *", "0,20,40 * 1,15 * *", "1-3 0 * * 0-6", "0 0 1-31 * *", "0 0 1-31 * 0-6", "0 12 * * 1-5", longest,
}

// otherTexts Parse takes, but what is printed of them is another text.
var otherTexts = []string{
	"0  0 * * *", " 0 0 * * *", "0 0 * * * ", "0\t0 * * *", "\t* * * * *", "00 0 * * *", "0 0000 * * *", "0 0 01 * *", "0-0 0 * * *", "1,0 0 * * *", "0,1 0 * * *",
	"0,0 0 * * *", "1-2,3 0 * * *", "1-2,2-3 0 * * *", "0-59 0 * * *", "*/1 * * * *", "*/20 * * * *", "* 0-23 * * *", "0 0 * 1-12 *", "0 0 * * 7", "0 0 * * 0,7", "0 0 * * 1-7",
	"0 0 *,* * *", "0 0 * * *,1", "0 0 */1 * *", "0 0 1-31/1 * *", "0 0 1-3/1 * *", "*,* * * * *", "3,1 0 * * *", "1-3,2 0 * * *",
}

// wrongTexts Parse refuses.
var wrongTexts = []struct {
	text string
	err  api.Errno
}{
	{"", api.ErrSyntax}, {" ", api.ErrSyntax}, {"x", api.ErrSyntax}, {"* * * *", api.ErrSyntax}, {"* * * * * *", api.ErrSyntax}, {"* * * * x", api.ErrSyntax},
	{"1/5 * * * *", api.ErrSyntax}, {"* * * * *\n", api.ErrSyntax}, {"0 0 * * 1-", api.ErrSyntax}, {"00000 0 * * *", api.ErrSyntax}, {"0 0 * * -1", api.ErrSyntax},
	{"60 * * * *", api.ErrField}, {"* 24 * * *", api.ErrField}, {"* * 0 * *", api.ErrField}, {"* * 32 * *", api.ErrField}, {"* * * 13 *", api.ErrField}, {"* * * * 8", api.ErrField},
	{"5-3 * * * *", api.ErrField}, {"*/0 * * * *", api.ErrField}, {strings.Repeat(" ", 248) + "* * * * *", api.ErrLong}, {strings.Repeat("x", 257), api.ErrLong}, {strings.Repeat("*", api.MaxText), api.ErrLong},
}

// noZones are no zones' names.
var noZones = []string{"", " ", "mars", "UTC", "Utc", "utc ", " utc", "ut", "utcc", "utc\x00", "berlin,utc", "europe/berlin", "new york", "+01:00", strings.Repeat("u", api.MaxText)}

// field is a job's field with the values that it may have and some that it may not have.
type field struct {
	name  string
	right []func(*api.Job)
	wrong []func(*api.Job)
}

func setters[T any](set func(*api.Job, T), values ...T) []func(*api.Job) {
	var all []func(*api.Job)
	for _, v := range values {
		all = append(all, func(j *api.Job) { set(j, v) })
	}
	return all
}

func fields() []field {
	var refused []string
	for _, w := range wrongTexts {
		refused = append(refused, w.text)
	}
	expr := func(j *api.Job, s string) { j.Expr = s }
	in := func(j *api.Job, s string) { j.Zone = s }
	token := func(j *api.Job, s string) { j.Token = s }
	client := func(j *api.Job, n int) { j.Client = n }
	seq := func(j *api.Job, n int64) { j.Seq = n }
	mark := func(j *api.Job, n int64) { j.Mark = n }
	return []field{
		{"Expr", setters(expr, printedTexts...), setters(expr, slices.Concat(otherTexts, refused)...)},
		{"Zone", setters(in, zone.Names()...), setters(in, noZones...)},
		{"Token", setters(token, "", "t", "\x00\xff\n ü", strings.Repeat("t", 31), strings.Repeat("\xff", api.MaxToken)),
			setters(token, strings.Repeat("t", api.MaxToken+1), strings.Repeat("\x00", api.MaxToken+1), strings.Repeat("t", api.MaxText))},
		{"Client", setters(client, 1, 2, 63, api.MaxClients), setters(client, 0, -1, api.MaxClients+1, math.MinInt, math.MaxInt, 1<<32+1, -1<<32+1, 257, 256+64)},
		{"Seq", setters[int64](seq, 1, 2, math.MaxInt32+1, 1<<40, math.MaxInt64-1, math.MaxInt64), setters[int64](seq, 0, -1, -2, math.MinInt64, math.MinInt64+1, -1<<32+1)},
		{"Mark", setters[int64](mark, -1, 0, 1, lastMinute-1, lastMinute, api.MaxTime), setters[int64](mark, -2, -3, lastMinute+1, api.MaxTime+1, math.MinInt64, math.MaxInt64, 1<<32, -1<<32-1)},
		{"Paused", setters(func(j *api.Job, b bool) { j.Paused = b }, true, false), nil},
	}
}

// Each field at its limits, one past them and otherwise wrong, of the first job, the last and one between.
func TestCheckFields(t *testing.T) {
	for _, list := range [][]api.Job{table(1), table(5), table(api.MaxJobs)} {
		for _, i := range places(list) {
			for _, f := range fields() {
				for _, set := range f.right {
					j := list[i]
					set(&j)
					wantCheck(t, with(list, i, j), true)
				}
				for _, set := range f.wrong {
					j := list[i]
					set(&j)
					wantCheck(t, with(list, i, j), false)
				}
			}
		}
	}
	for _, name := range []string{"", "A", "a b", "ä", strings.Repeat("a", api.MaxName+1)} {
		wantCheck(t, []api.Job{jobOf(name, "* * * * *", 0)}, false)
	}
	for _, name := range []string{"a", "-", strings.Repeat("a", api.MaxName)} {
		wantCheck(t, []api.Job{jobOf(name, "* * * * *", 0)}, true)
	}
	wantCheck(t, []api.Job{{}}, false)
	wantCheck(t, make([]api.Job, api.MaxJobs+1), false)
}

// A job is right with whatever is printed of an expression, and with nothing else that is parsed as it.
func TestCheckPrinted(t *testing.T) {
	for _, text := range slices.Concat(printedTexts, otherTexts) {
		c, _, e := cron.Parse(text)
		if e != api.OK {
			t.Fatalf("layer 6: Parse(%q): %d", text, e)
		}
		p, _ := cron.Print(c)
		wantCheck(t, []api.Job{jobOf("a", p, 0)}, true)
		wantCheck(t, []api.Job{jobOf("a", text, 0)}, slices.Contains(printedTexts, text))
	}
}

// noTables are lists that are no tables, each by one thing.
func noTables() [][]api.Job {
	all := [][]api.Job{table(api.MaxJobs + 1), {{}}, {jobOf("b", "* * * * *", 0), jobOf("a", "* * * * *", 0)}, {jobOf("a", "* * * * *", 0), jobOf("a", "* * * * *", 0)}}
	list := table(5)
	for i := range list {
		for _, f := range fields() {
			for _, set := range f.wrong[:min(len(f.wrong), 2)] {
				j := list[i]
				set(&j)
				all = append(all, with(list, i, j))
			}
		}
		j := list[i]
		j.Name = strings.ToUpper(j.Name)
		all = append(all, with(list, i, j))
	}
	return all
}

// Of a list that is no table: no jobs, and ErrState, whatever the command is; and nothing is due.
func TestNoTables(t *testing.T) {
	for _, list := range noTables() {
		for kind := -1; kind <= 10; kind++ {
			for _, name := range []string{"", "a", "B", "j000", "j004", "zz"} {
				c := api.Cmd{Kind: kind, Client: 1, Seq: 1, Name: name, Expr: "* * * * *", Zone: "utc", Time: 5}
				want(t, list, c, nil, api.Result{Err: api.ErrState})
				want(t, list, api.Cmd{Kind: kind, Name: name, Time: -2}, nil, api.Result{Err: api.ErrState})
			}
		}
		for _, upto := range []int64{-1, 0, 5000, api.MaxTime, math.MaxInt64} {
			wantDue(t, list, upto)
		}
	}
}

// A job that was right in a table of as many as there may be is right in each shorter one.
func TestCheckPieces(t *testing.T) {
	list := table(api.MaxJobs)
	for n := range list {
		wantCheck(t, list[:n], true)
		wantCheck(t, list[n:], true)
	}
	for i := range 64 {
		j := jobOf(fmt.Sprint("c", i), "* * * * *", -1)
		j.Client = i + 1
		wantCheck(t, []api.Job{j}, true)
	}
}
