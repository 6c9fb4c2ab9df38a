package jobs_test

import (
	"slices"
	"strings"
	"sync"

	"matins/api"
	"matins/cron"
	"matins/due"
	"matins/zone"
)

// lastMinute is 2399-12-31 23:59.
const lastMinute = 226157759

// The paper reads the chapter plainly, sentence by sentence, with layers 5 to 7 by their own calls.

func paperNamed(s string) bool {
	for _, b := range []byte(s) {
		if !strings.Contains("abcdefghijklmnopqrstuvwxyz0123456789-.", string([]byte{b})) {
			return false
		}
	}
	return 1 <= len(s) && len(s) <= 16
}

func paperMark(t int64) bool { return -1 <= t && t <= lastMinute }

// printedExpr is an expression as it is printed; none, if there is none.
func printedExpr(expr string) (string, api.Errno) {
	c, _, e := cron.Parse(expr)
	if e != api.OK {
		return "", e
	}
	return cron.Print(c)
}

func paperRight(j api.Job) bool {
	expr, e := printedExpr(j.Expr)
	return paperNamed(j.Name) && e == api.OK && expr == j.Expr && slices.Contains(zone.Names(), j.Zone) && len(j.Token) <= 32 &&
		1 <= j.Client && j.Client <= 64 && 1 <= j.Seq && paperMark(j.Mark)
}

func paperCheck(list []api.Job) bool {
	if len(list) > 256 {
		return false
	}
	var names []string
	for _, j := range list {
		if !paperRight(j) {
			return false
		}
		names = append(names, j.Name)
	}
	return slices.IsSorted(names) && len(slices.Compact(names)) == len(list)
}

// asked is what a next occurrence hangs on.
type asked struct {
	expr, zone string
	mark       int64
}

type answered struct {
	time int64
	err  api.Errno
}

// answers keeps what due.Next answered: of a job that is never due it takes long.
var answers sync.Map

// paperNext is due.Next of a right job's Expr and Zone after its Mark.
func paperNext(j api.Job) (int64, api.Errno) {
	q := asked{j.Expr, j.Zone, j.Mark}
	if a, ok := answers.Load(q); ok {
		return a.(answered).time, a.(answered).err
	}
	c, _, _ := cron.Parse(j.Expr)
	z, _ := zone.Named(j.Zone)
	t, e := due.Next(c, z.Rules(), j.Mark)
	answers.Store(q, answered{t, e})
	return t, e
}

func no(e api.Errno) api.Result { return api.Result{Err: e} }

func one(j api.Job) api.Result { return api.Result{Jobs: []api.Job{j}} }

// paperAdd is the table with one job more.
func paperAdd(list []api.Job, c api.Cmd) ([]api.Job, api.Result) {
	if !paperNamed(c.Name) || len(c.Token) > 32 || c.Client < 1 || c.Client > 64 || c.Seq < 1 || !paperMark(c.Time) {
		return list, no(api.ErrArg)
	}
	expr, e := printedExpr(c.Expr)
	if e != api.OK {
		return list, no(e)
	}
	if !slices.Contains(zone.Names(), c.Zone) {
		return list, no(api.ErrZone)
	}
	for _, j := range list {
		if j.Name == c.Name {
			return list, no(api.ErrExists)
		}
	}
	if len(list) == 256 {
		return list, no(api.ErrFull)
	}
	j := api.Job{Name: c.Name, Expr: expr, Zone: c.Zone, Token: c.Token, Client: c.Client, Seq: c.Seq, Paused: false, Mark: c.Time}
	more := append(slices.Clone(list), j)
	slices.SortFunc(more, func(a, b api.Job) int { return strings.Compare(a.Name, b.Name) })
	return more, one(j)
}

func paperList(list []api.Job, from string) api.Result {
	var r api.Result
	for _, j := range list {
		if !(j.Name < from) && len(r.Jobs) < 16 {
			r.Jobs = append(r.Jobs, j)
		}
	}
	return r
}

// paperOf is what a command makes of the job that it names; false: the table stays as it is.
func paperOf(j api.Job, c api.Cmd) (api.Job, api.Result, bool) {
	next, e := paperNext(j)
	switch c.Kind {
	case api.CmdPause:
		if j.Paused {
			return j, no(api.ErrState), false
		}
		j.Paused = true
	case api.CmdResume:
		if !j.Paused {
			return j, no(api.ErrState), false
		}
		if !paperMark(c.Time) {
			return j, no(api.ErrArg), false
		}
		j.Paused = false
		if c.Time > j.Mark {
			j.Mark = c.Time
		}
	case api.CmdNext:
		if e != api.OK {
			return j, no(api.ErrNone), false
		}
		return j, api.Result{Time: next}, false
	case api.CmdLaunch:
		if c.Client != j.Client || c.Seq != j.Seq {
			return j, no(api.ErrStale), false
		}
		if j.Paused {
			return j, no(api.ErrState), false
		}
		if e != api.OK || c.Time != next {
			return j, no(api.ErrTime), false
		}
		j.Mark = c.Time
		return j, api.Result{Time: c.Time, Jobs: []api.Job{j}}, true
	}
	return j, one(j), true
}

// paperDo leaves the list as it is: what it answers may share memory with it.
func paperDo(list []api.Job, c api.Cmd) ([]api.Job, api.Result) {
	if !paperCheck(list) {
		return nil, no(api.ErrState)
	}
	switch c.Kind {
	case api.CmdAdd:
		return paperAdd(list, c)
	case api.CmdList:
		return list, paperList(list, c.Name)
	case api.CmdRemove, api.CmdPause, api.CmdResume, api.CmdGet, api.CmdNext, api.CmdLaunch:
	default:
		return list, no(api.ErrArg)
	}
	for i, j := range list {
		if j.Name != c.Name {
			continue
		}
		j, r, changes := paperOf(j, c)
		switch {
		case c.Kind == api.CmdRemove:
			return slices.Concat(list[:i], list[i+1:]), r
		case changes:
			return slices.Concat(list[:i], []api.Job{j}, list[i+1:]), r
		}
		return list, r
	}
	return list, no(api.ErrMiss)
}

func paperDue(list []api.Job, upto int64) []api.Launch {
	if !paperCheck(list) {
		return nil
	}
	var found []api.Launch
	for _, j := range list {
		if t, e := paperNext(j); !j.Paused && e == api.OK && t <= upto {
			found = append(found, api.Launch{Name: j.Name, Client: j.Client, Seq: j.Seq, Time: t, Token: j.Token})
		}
	}
	slices.SortFunc(found, func(a, b api.Launch) int {
		if a.Time != b.Time {
			return int(a.Time - b.Time)
		}
		return strings.Compare(a.Name, b.Name)
	})
	return found
}
