package jobs

import (
	"slices"
	"strings"

	"matins/api"
)

// desk is a table with a command that is done to it.
type desk struct {
	jobs  []api.Job // the desk's own
	cmd   api.Cmd
	place int  // of the first job whose name isn't below the command's
	there bool // that job has this name
}

// deeds is what the commands do, by their Kinds. A deed that is refused leaves the jobs as they are.
func deeds() [api.CmdLaunch + 1]func(*desk) api.Result {
	return [...]func(*desk) api.Result{
		api.CmdAdd:    (*desk).add,
		api.CmdRemove: (*desk).remove,
		api.CmdPause:  (*desk).pause,
		api.CmdResume: (*desk).resume,
		api.CmdGet:    (*desk).get,
		api.CmdNext:   (*desk).next,
		api.CmdList:   (*desk).list,
		api.CmdLaunch: (*desk).launch,
	}
}

// lay puts a copy of a table and a command on a desk.
func lay(list []api.Job, c api.Cmd) *desk {
	place, there := slices.BinarySearchFunc(list, c.Name, func(j api.Job, name string) int { return strings.Compare(j.Name, name) })
	return &desk{jobs: slices.Clone(list), cmd: c, place: place, there: there}
}

// job is the one that the command names, as it stands in the table; nil: there is none.
func (d *desk) job() *api.Job {
	if !d.there {
		return nil
	}
	return &d.jobs[d.place]
}

func (d *desk) add() api.Result {
	c := d.cmd
	j, err := printed(api.Job{Name: c.Name, Expr: c.Expr, Zone: c.Zone, Token: c.Token, Client: c.Client, Seq: c.Seq, Mark: c.Time})
	switch {
	case err != api.OK:
		return refused(err)
	case d.there:
		return refused(api.ErrExists)
	case len(d.jobs) == api.MaxJobs:
		return refused(api.ErrFull)
	}
	d.jobs = slices.Insert(d.jobs, d.place, j)
	return told(j)
}

func (d *desk) remove() api.Result {
	j := d.job()
	if j == nil {
		return refused(api.ErrMiss)
	}
	r := told(*j)
	d.jobs = slices.Delete(d.jobs, d.place, d.place+1)
	return r
}

func (d *desk) pause() api.Result {
	j := d.job()
	switch {
	case j == nil:
		return refused(api.ErrMiss)
	case j.Paused:
		return refused(api.ErrState)
	}
	j.Paused = true
	return told(*j)
}

func (d *desk) resume() api.Result {
	j := d.job()
	switch {
	case j == nil:
		return refused(api.ErrMiss)
	case !j.Paused:
		return refused(api.ErrState)
	case !isMark(d.cmd.Time):
		return refused(api.ErrArg)
	}
	j.Paused = false
	j.Mark = max(j.Mark, d.cmd.Time)
	return told(*j)
}

func (d *desk) get() api.Result {
	j := d.job()
	if j == nil {
		return refused(api.ErrMiss)
	}
	return told(*j)
}

func (d *desk) next() api.Result {
	j := d.job()
	if j == nil {
		return refused(api.ErrMiss)
	}
	t, ok := next(*j, api.MaxTime)
	if !ok {
		return refused(api.ErrNone)
	}
	return api.Result{Time: t}
}

func (d *desk) list() api.Result {
	return told(d.jobs[d.place:min(d.place+api.MaxList, len(d.jobs))]...)
}

func (d *desk) launch() api.Result {
	j := d.job()
	switch {
	case j == nil:
		return refused(api.ErrMiss)
	case j.Client != d.cmd.Client || j.Seq != d.cmd.Seq:
		return refused(api.ErrStale)
	case j.Paused:
		return refused(api.ErrState)
	}
	t, ok := next(*j, d.cmd.Time)
	if !ok || t != d.cmd.Time {
		return refused(api.ErrTime)
	}
	j.Mark = t
	r := told(*j)
	r.Time = t
	return r
}

func refused(err api.Errno) api.Result { return api.Result{Err: err} }

// told is a Result with copies of jobs: whoever has it and whoever has the table share no memory.
func told(list ...api.Job) api.Result { return api.Result{Jobs: slices.Clone(list)} }
