package jobs

import (
	"matins/api"
	"matins/cron"
	"matins/due"
	"matins/zone"
)

const leastMark = -1 // the instant 0 lies above it

// inNames tells whether a name may have a byte.
func inNames(b byte) bool {
	return b >= 'a' && b <= 'z' || b >= '0' && b <= '9' || b == '-' || b == '.'
}

func isMark(t int64) bool { return t >= leastMark && t <= api.MaxTime }

// right tells whether a job is right: to print its Expr once more changes nothing.
func right(j api.Job) bool {
	p, err := printed(j)
	return err == api.OK && p == j
}

// printed is a job with its Expr as cron.Print prints it: a right one. If the fields are none of a right job, it is the error with which the command that adds it is refused.
func printed(j api.Job) (api.Job, api.Errno) {
	if !Named(j.Name) || len(j.Token) > api.MaxToken || j.Client < 1 || j.Client > api.MaxClients || j.Seq < 1 || !isMark(j.Mark) {
		return api.Job{}, api.ErrArg
	}
	c, _, err := cron.Parse(j.Expr)
	if err != api.OK {
		return api.Job{}, err
	}
	if _, err = zone.Named(j.Zone); err != api.OK {
		return api.Job{}, err
	}
	j.Expr, err = cron.Print(c)
	return j, err
}

// next is the next occurrence of a right job, and whether there is one up to an instant. due.Next would go on beyond that instant, and of a job that is seldom or never due that takes long.
func next(j api.Job, upto int64) (int64, bool) {
	c, _, _ := cron.Parse(j.Expr)
	z, _ := zone.Named(j.Zone)
	first, _ := due.Between(c, z.Rules(), j.Mark, min(upto, api.MaxTime), 1)
	if len(first) == 0 {
		return 0, false
	}
	return first[0], true
}
