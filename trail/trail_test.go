package trail_test

import (
	"math"
	"math/rand"
	"slices"
	"strconv"
	"strings"
	"testing"

	"matins/api"
	"matins/trail"
)

const top = 1 << 40

// ends are numbers at both ends of their range, and around what the limits or fewer bits would mix up.
var ends = []int64{
	math.MinInt64, math.MinInt64 + 1, -top - 1, -top, -1<<32 - 1, math.MinInt32, -2, -1, 0, 1, 2, math.MaxInt32, 1<<32 - 1, 1 << 32, 1<<32 + 1,
	top - 1, top, top + 1, math.MaxInt64 - 1, math.MaxInt64,
}

// list is entries of some terms, each with a Data of its own.
func list(terms ...int64) []api.Entry {
	var l []api.Entry
	for i, term := range terms {
		l = append(l, api.Entry{Term: term, Data: "d" + strconv.Itoa(i)})
	}
	return l
}

func log(base, baseTerm int64, terms ...int64) api.Trail {
	return api.Trail{Base: base, BaseTerm: baseTerm, Entries: list(terms...)}
}

// many is a log of a number of entries, all of one term.
func many(base, baseTerm int64, count int, term int64) api.Trail {
	return log(base, baseTerm, slices.Repeat([]int64{term}, count)...)
}

// named is a list whose entries say where they come from.
func named(from string, l []api.Entry) []api.Entry {
	l = slices.Clone(l)
	for i := range l {
		l[i].Data = from + strconv.Itoa(i)
	}
	return l
}

func data(bytes int) string { return strings.Repeat("x", bytes) }

// two is the log of the chapter's examples.
func two() api.Trail { return log(2, 1, 1, 3) }

// rights are right logs.
var rights = []api.Trail{
	{}, {Entries: []api.Entry{}}, {Base: 1}, {Base: 1, BaseTerm: 1}, {Base: 1, BaseTerm: top}, {Base: top}, {Base: top, BaseTerm: 1}, {Base: top, BaseTerm: top},
	log(0, 0, 1), log(0, 0, top), log(0, 0, 1, 1), log(0, 0, 1, 2), log(0, 0, 1, top), log(0, 0, top, top), log(0, 0, 5, 5, 7, 7, 9), two(),
	log(1, 0, 1), log(7, 0, 3, 3), log(1, 1, 1), log(9, 4, 4, 4, 5), log(9, 4, 6), log(5, top, top, top), log(1<<32, 1<<32, 1<<32, 1<<32+1),
	log(top-1, 0, 1), log(top-1, top, top), log(top-2, 3, 3, 4), log(top-2, 3, 3), log(top-5, 3, 3, 4, 4, 5, 6),
	many(0, 0, api.MaxLog, 1), many(0, 0, api.MaxLog-1, 1), many(top-api.MaxLog, top, api.MaxLog, top), many(top-api.MaxLog-1, 7, api.MaxLog, 8),
	{Entries: []api.Entry{{Term: 1}}}, {Entries: []api.Entry{{Term: 1, Data: data(api.MaxData)}}}, {Entries: []api.Entry{{Term: 1, Data: data(api.MaxData - 1)}, {Term: 1, Data: data(api.MaxData)}}},
	{Base: 3, BaseTerm: 2, Entries: []api.Entry{{Term: 2, Data: "\x00"}, {Term: 2, Data: "\xff\xfe"}, {Term: 3, Data: strings.Repeat("ä", api.MaxData/2)}}},
}

// wrongs are logs that aren't right.
var wrongs = []api.Trail{
	{Base: -1}, {Base: -1, BaseTerm: 1}, {Base: -top}, {Base: math.MinInt64}, {Base: top + 1}, {Base: top + 1, BaseTerm: 1}, {Base: math.MaxInt64}, {Base: math.MaxInt64, BaseTerm: 1},
	{BaseTerm: 1}, {BaseTerm: top}, {BaseTerm: -1}, {BaseTerm: top + 1}, {BaseTerm: math.MinInt64}, {BaseTerm: math.MaxInt64},
	{Base: 1, BaseTerm: -1}, {Base: 1, BaseTerm: top + 1}, {Base: 1, BaseTerm: math.MinInt64}, {Base: 1, BaseTerm: math.MaxInt64}, {Base: top, BaseTerm: top + 1}, {Base: top, BaseTerm: -1},
	log(-1, 0, 1), log(-2, 0, 1, 1), log(-1, 1, 1), log(0, 1, 1), log(0, 2, 3), log(0, -1, 1), log(1, -1, 1), log(1, top+1, top+1), log(1, top+1, top),
	log(top, 0, 1), log(top, 1, 1), log(top, top, top), log(top-1, 1, 1, 1), log(top-2, 1, 1, 1, 1), log(top+1, 1, 1), log(math.MaxInt64, 1, 1), log(math.MaxInt64-1, 1, 1, 1), log(math.MinInt64, 1, 1),
	many(0, 0, api.MaxLog+1, 1), many(5, 2, api.MaxLog+1, 2), many(top-api.MaxLog+1, 1, api.MaxLog, 1), many(top-api.MaxLog-1, 1, api.MaxLog+1, 1), many(0, 0, 2*api.MaxLog, 1),
	log(0, 0, 0), log(0, 0, -1), log(1, 0, 0), log(1, 0, -1), log(0, 0, 1, 0), log(0, 0, 1, -1), log(0, 0, 1, 2, 0), log(0, 0, 0, 1), log(0, 0, math.MinInt64), log(0, 0, 1, math.MinInt64),
	log(1, 5, 4), log(1, 5, 4, 5), log(1, 5, 1), log(1, 5, 0), log(1, 2, 1, 2), log(3, top, top-1), log(1, 1<<32, 1), log(1, 1<<32+1, 2),
	log(0, 0, 2, 1), log(0, 0, 1, 2, 1), log(0, 0, 1, 3, 2), log(0, 0, 3, 2, 3), log(0, 0, top, 1), log(2, 1, 1, 3, 2), log(2, 1, 1, 3, 3, 3, 2), log(0, 0, 1<<32+1, 1),
	log(0, 0, top+1), log(0, 0, 1, top+1), log(1, top, top+1), log(0, 0, top+1, 1), log(0, 0, math.MaxInt64), log(0, 0, 1, math.MaxInt64), log(0, 0, 1, 1, top+1, top+1),
	{Entries: []api.Entry{{Term: 1, Data: data(api.MaxData + 1)}}}, {Entries: []api.Entry{{Term: 1}, {Term: 1, Data: data(api.MaxData + 1)}}}, {Entries: []api.Entry{{Term: 1, Data: data(api.MaxData + 1)}, {Term: 1}}},
	{Base: 3, BaseTerm: 2, Entries: []api.Entry{{Term: 2, Data: data(api.MaxText)}}}, {Entries: []api.Entry{{Term: 1, Data: strings.Repeat("ä", api.MaxData/2+1)}}}, {Entries: []api.Entry{{}}},
	{Entries: make([]api.Entry, api.MaxLog+1)}, {Entries: []api.Entry{{Data: "a"}}},
}

// The paper calls read the chapter plainly.

func paperFollow(entries []api.Entry, term int64) bool {
	for i, e := range entries {
		if e.Term < 1 || e.Term > top || len(e.Data) > 4096 || e.Term < term {
			return false
		}
		if i > 0 && e.Term < entries[i-1].Term {
			return false
		}
	}
	return true
}

func paperCheck(t api.Trail) bool {
	switch {
	case t.Base < 0, t.Base > top, t.BaseTerm < 0, t.BaseTerm > top, len(t.Entries) > 4096:
		return false
	case t.Base == 0 && t.BaseTerm > 0:
		return false
	}
	return t.Base+int64(len(t.Entries)) <= top && paperFollow(t.Entries, t.BaseTerm)
}

// paperTerms is the terms of all numbers that a right log knows.
func paperTerms(t api.Trail) map[int64]int64 {
	terms := map[int64]int64{t.Base: t.BaseTerm}
	for i, e := range t.Entries {
		terms[t.Base+1+int64(i)] = e.Term
	}
	return terms
}

func paperLast(t api.Trail) (int64, int64) {
	if !paperCheck(t) {
		return 0, 0
	}
	n, term := t.Base, t.BaseTerm
	for _, e := range t.Entries {
		n, term = n+1, e.Term
	}
	return n, term
}

func paperTerm(t api.Trail, n int64) (int64, bool) {
	if !paperCheck(t) {
		return 0, false
	}
	term, ok := paperTerms(t)[n]
	return term, ok
}

func paperNewer(t api.Trail, n, term int64) bool {
	last, lastTerm := paperLast(t)
	if !paperCheck(t) || term < lastTerm {
		return false
	}
	return term > lastTerm || n >= last
}

func paperSlice(t api.Trail, from int64, most int) []api.Entry {
	if !paperCheck(t) {
		return nil
	}
	var l []api.Entry
	for i, e := range t.Entries {
		if t.Base+1+int64(i) >= from && len(l) < most {
			l = append(l, e)
		}
	}
	return l
}

func paperAppend(t api.Trail, e api.Entry) (api.Trail, bool) {
	out := api.Trail{Base: t.Base, BaseTerm: t.BaseTerm, Entries: append(slices.Clone(t.Entries), e)}
	if !paperCheck(t) || !paperCheck(out) {
		return api.Trail{}, false
	}
	return out, true
}

func paperPut(t api.Trail, prev, term int64, entries []api.Entry, fixed int64) (api.Trail, bool) {
	if !paperCheck(t) || prev < 0 || term < 0 || !paperFollow(entries, term) {
		return api.Trail{}, false
	}
	for prev < t.Base { // one by one: the last one that is left out has the number Base
		if len(entries) == 0 {
			return t, true
		}
		prev, term, entries = prev+1, entries[0].Term, entries[1:]
	}
	terms := paperTerms(t)
	if have, ok := terms[prev]; !ok || have != term {
		return api.Trail{}, false
	}
	for i, e := range entries {
		n := prev + 1 + int64(i)
		if have, ok := terms[n]; ok && have == e.Term {
			continue
		}
		out := api.Trail{Base: t.Base, BaseTerm: t.BaseTerm}
		for j, kept := range t.Entries {
			if t.Base+1+int64(j) < n {
				out.Entries = append(out.Entries, kept)
			}
		}
		out.Entries = append(out.Entries, entries[i:]...)
		if n <= fixed || !paperCheck(out) {
			return api.Trail{}, false
		}
		return out, true
	}
	return t, true
}

func paperCut(t api.Trail, to int64) (api.Trail, bool) {
	term, ok := paperTerm(t, to)
	if !ok {
		return api.Trail{}, false
	}
	out := api.Trail{Base: to, BaseTerm: term}
	for i, e := range t.Entries {
		if t.Base+1+int64(i) > to {
			out.Entries = append(out.Entries, e)
		}
	}
	return out, true
}

func same(a, b api.Trail) bool {
	return a.Base == b.Base && a.BaseTerm == b.BaseTerm && slices.Equal(a.Entries, b.Entries)
}

// told is a log for an error's text: that of a long one would be too long.
func told(t api.Trail) string {
	s := "{" + strconv.FormatInt(t.Base, 10) + " " + strconv.FormatInt(t.BaseTerm, 10) + ":" + toldList(t.Entries)
	return s + "}"
}

func toldList(l []api.Entry) string {
	s := ""
	for i, e := range l {
		if i == 9 {
			return s + " .. of " + strconv.Itoa(len(l))
		}
		s += " " + strconv.FormatInt(e.Term, 10) + strconv.Quote(e.Data[:min(len(e.Data), 9)])
	}
	return s
}

func wantCheck(t testing.TB, l api.Trail, want bool) {
	t.Helper()
	if got := trail.Check(l); got != want {
		t.Errorf("P13.1: Check(%s): %v, want %v", told(l), got, want)
	}
}

func wantLast(t testing.TB, l api.Trail, n, term int64) {
	t.Helper()
	if gotN, gotTerm := trail.Last(l); gotN != n || gotTerm != term {
		t.Errorf("P13.1: Last(%s): %d, %d, want %d, %d", told(l), gotN, gotTerm, n, term)
	}
}

func wantTerm(t testing.TB, l api.Trail, n, term int64, ok bool) {
	t.Helper()
	if gotTerm, gotOk := trail.Term(l, n); gotTerm != term || gotOk != ok {
		t.Errorf("P13.1: Term(%s, %d): %d, %v, want %d, %v", told(l), n, gotTerm, gotOk, term, ok)
	}
}

func wantNewer(t testing.TB, l api.Trail, n, term int64, want bool) {
	t.Helper()
	if got := trail.Newer(l, n, term); got != want {
		t.Errorf("P13.2: Newer(%s, %d, %d): %v, want %v", told(l), n, term, got, want)
	}
}

func wantSlice(t testing.TB, l api.Trail, from int64, most int, want []api.Entry) {
	t.Helper()
	if got := trail.Slice(l, from, most); !slices.Equal(got, want) {
		t.Errorf("P13.1: Slice(%s, %d, %d):%s, want%s", told(l), from, most, toldList(got), toldList(want))
	}
}

func wantAppend(t testing.TB, l api.Trail, e api.Entry, want api.Trail, ok bool) {
	t.Helper()
	if got, gotOk := trail.Append(l, e); gotOk != ok || !same(got, want) {
		t.Errorf("P13.3: Append(%s,%s): %s, %v, want %s, %v", told(l), toldList([]api.Entry{e}), told(got), gotOk, told(want), ok)
	}
}

func wantPut(t testing.TB, l api.Trail, prev, term int64, entries []api.Entry, fixed int64, want api.Trail, ok bool) {
	t.Helper()
	if got, gotOk := trail.Put(l, prev, term, entries, fixed); gotOk != ok || !same(got, want) {
		t.Errorf("P13.4: Put(%s, %d, %d, {%s }, %d): %s, %v, want %s, %v", told(l), prev, term, toldList(entries), fixed, told(got), gotOk, told(want), ok)
	}
}

func wantNoPut(t testing.TB, l api.Trail, prev, term int64, entries []api.Entry, fixed int64) {
	t.Helper()
	wantPut(t, l, prev, term, entries, fixed, api.Trail{}, false)
}

func wantCut(t testing.TB, l api.Trail, to int64, want api.Trail, ok bool) {
	t.Helper()
	if got, gotOk := trail.Cut(l, to); gotOk != ok || !same(got, want) {
		t.Errorf("P13.5: Cut(%s, %d): %s, %v, want %s, %v", told(l), to, told(got), gotOk, told(want), ok)
	}
}

// The hold calls hold an answer against the paper's.

func holdPut(t testing.TB, l api.Trail, prev, term int64, entries []api.Entry, fixed int64) {
	t.Helper()
	want, ok := paperPut(l, prev, term, entries, fixed)
	wantPut(t, l, prev, term, entries, fixed, want, ok)
}

func holdNumber(t testing.TB, l api.Trail, n int64) {
	t.Helper()
	term, ok := paperTerm(l, n)
	wantTerm(t, l, n, term, ok)
	cut, ok := paperCut(l, n)
	wantCut(t, l, n, cut, ok)
}

func holdAppend(t testing.TB, l api.Trail, e api.Entry) {
	t.Helper()
	want, ok := paperAppend(l, e)
	wantAppend(t, l, e, want, ok)
}

func TestExamples(t *testing.T) {
	l := two()
	wantCheck(t, l, true)
	wantLast(t, l, 4, 3)
	wantTerm(t, l, 2, 1, true)
	wantTerm(t, l, 1, 0, false)
	wantNewer(t, l, 4, 3, true)
	wantNewer(t, l, 2, 4, true)
	wantNewer(t, l, 9, 2, false)
	wantSlice(t, l, 0, 9, l.Entries)
	x := func(term int64) []api.Entry { return []api.Entry{{Term: term, Data: "x"}} }
	wantPut(t, l, 3, 1, x(2), 3, api.Trail{Base: 2, BaseTerm: 1, Entries: slices.Concat(l.Entries[:1], x(2))}, true)
	wantNoPut(t, l, 3, 1, x(2), 4)
	wantPut(t, l, 4, 3, x(3), 0, api.Trail{Base: 2, BaseTerm: 1, Entries: slices.Concat(l.Entries, x(3))}, true)
	for term := range int64(5) {
		wantNoPut(t, l, 5, term, nil, 0)
		wantNoPut(t, l, 5, term, x(4), 0)
	}
	wantPut(t, l, 0, 0, list(1, 1, 1), 4, l, true)
	wantNoPut(t, l, 1, 1, list(2, 2), 0)
	wantCut(t, l, 3, api.Trail{Base: 3, BaseTerm: 1, Entries: l.Entries[1:]}, true)
	wantCut(t, l, 5, api.Trail{}, false)
}

func TestCheck(t *testing.T) {
	for _, l := range rights {
		wantCheck(t, l, true)
	}
	for _, l := range wrongs {
		wantCheck(t, l, false)
	}
}

// Each Base with each BaseTerm, with none, one and two entries of each term.
func TestCheckOfEachNumber(t *testing.T) {
	right := 0
	for _, base := range slices.Concat(ends, []int64{top - 2}) {
		for _, baseTerm := range ends {
			logs := []api.Trail{log(base, baseTerm)}
			for _, term := range ends {
				logs = append(logs, log(base, baseTerm, term), log(base, baseTerm, term, term), log(base, baseTerm, 1, term), log(base, baseTerm, term, top))
			}
			for _, l := range logs {
				wantCheck(t, l, paperCheck(l))
				if paperCheck(l) {
					right++
				}
			}
		}
	}
	if right < 1000 {
		t.Errorf("only %d of the logs are right", right)
	}
}

// Of a log that isn't right each call answers zero values and false, also where the entries that are asked for stand ahead of the fault.
func TestOfLogsThatAreNotRight(t *testing.T) {
	for _, l := range wrongs {
		wantLast(t, l, 0, 0)
		for _, n := range slices.Concat(ends, []int64{3, 4, l.Base, l.Base + 1, l.Base + int64(len(l.Entries))}) {
			wantTerm(t, l, n, 0, false)
			wantCut(t, l, n, api.Trail{}, false)
			wantSlice(t, l, n, 1, nil)
			wantSlice(t, l, n, math.MaxInt, nil)
			for _, term := range []int64{math.MinInt64, 0, 1, l.BaseTerm, top, math.MaxInt64} {
				wantNewer(t, l, n, term, false)
				wantNoPut(t, l, n, term, nil, 0)
				wantNoPut(t, l, n, term, nil, math.MaxInt64)
				wantNoPut(t, l, n, term, list(max(1, term)), 0)
				wantNoPut(t, l, n, term, list(1, 1, 1), math.MinInt64)
			}
		}
		for _, term := range ends {
			wantAppend(t, l, api.Entry{Term: term}, api.Trail{}, false)
		}
	}
}

func TestLast(t *testing.T) {
	wantLast(t, api.Trail{}, 0, 0)
	wantLast(t, log(0, 0, 4), 1, 4)
	wantLast(t, log(0, 0, 4, 4, 7), 3, 7)
	wantLast(t, log(5, 0), 5, 0)
	wantLast(t, log(5, 3), 5, 3)
	wantLast(t, log(5, 3, 3), 6, 3)
	wantLast(t, log(5, 3, 4, top), 7, top)
	wantLast(t, log(top, top), top, top)
	wantLast(t, log(top, 0), top, 0)
	wantLast(t, log(top-2, 1, 2, 3), top, 3)
	wantLast(t, many(0, 0, api.MaxLog, 2), api.MaxLog, 2)
	wantLast(t, many(top-api.MaxLog, 1, api.MaxLog, 2), top, 2)
	for _, l := range rights {
		n, term := paperLast(l)
		wantLast(t, l, n, term)
	}
}

func TestTerm(t *testing.T) {
	l := log(5, 2, 2, 3, 3, 9)
	for i, term := range []int64{2, 2, 3, 3, 9} {
		wantTerm(t, l, 5+int64(i), term, true)
	}
	for _, n := range slices.Concat([]int64{3, 4, 10, 11, 5 + 1<<32, 9 - 1<<32, 7 + math.MinInt64}, ends) {
		wantTerm(t, l, n, 0, false)
	}
	wantTerm(t, api.Trail{}, 0, 0, true)
	wantTerm(t, api.Trail{}, 1, 0, false)
	wantTerm(t, api.Trail{}, -1, 0, false)
	wantTerm(t, log(7, 0), 7, 0, true)
	wantTerm(t, log(7, 4), 7, 4, true)
	wantTerm(t, log(7, 4), 6, 0, false)
	wantTerm(t, log(7, 4), 8, 0, false)
	wantTerm(t, log(top, 4), top, 4, true)
	wantTerm(t, log(top, 4), top+1, 0, false)
	wantTerm(t, log(top-1, 4, top), top, top, true)
	wantTerm(t, log(0, 0, 6), 0, 0, true)
	wantTerm(t, log(0, 0, 6), 1, 6, true)
}

// Each right log, at its ends, around them, and at both ends of the numbers' range: Term and Cut.
func TestOfEachNumber(t *testing.T) {
	for _, l := range rights {
		last, _ := paperLast(l)
		for _, n := range slices.Concat(ends, []int64{l.Base - 1, l.Base, l.Base + 1, (l.Base + last) / 2, last - 1, last, last + 1}) {
			holdNumber(t, l, n)
		}
	}
}

func TestSlice(t *testing.T) {
	l := log(5, 2, 2, 3, 3, 9)
	for _, from := range []int64{math.MinInt64, math.MinInt64 + 1, -1, 0, 1, 4, 5, 6} {
		for most := range 9 {
			wantSlice(t, l, from, most, l.Entries[:min(most, 4)])
		}
		wantSlice(t, l, from, math.MaxInt, l.Entries)
	}
	for i := range 4 {
		from := 6 + int64(i)
		for most := range 9 {
			wantSlice(t, l, from, most, l.Entries[i:min(i+most, 4)])
		}
		wantSlice(t, l, from, math.MaxInt, l.Entries[i:])
		wantSlice(t, l, from, math.MaxInt-1, l.Entries[i:])
		wantSlice(t, l, from, 1<<32, l.Entries[i:])
	}
	for _, from := range []int64{10, 11, 6 + 1<<32, top, top + 1, math.MaxInt64 - 1, math.MaxInt64} {
		wantSlice(t, l, from, 1, nil)
		wantSlice(t, l, from, math.MaxInt, nil)
		wantSlice(t, l, from, math.MinInt, nil)
	}
	for from := range int64(12) {
		for _, most := range []int{0, -1, -2, -4, math.MinInt32, -1<<32 + 1, math.MinInt, math.MinInt + 1} {
			wantSlice(t, l, from, most, nil)
		}
	}
}

func TestSliceOfEachLog(t *testing.T) {
	for _, l := range rights {
		last, _ := paperLast(l)
		for _, from := range slices.Concat(ends, []int64{l.Base - 1, l.Base, l.Base + 1, l.Base + 2, last - 1, last, last + 1}) {
			for _, most := range []int{math.MinInt, -1, 0, 1, 2, 3, api.MaxLog - 1, api.MaxLog, math.MaxInt} {
				wantSlice(t, l, from, most, paperSlice(l, from, most))
			}
		}
	}
}

func TestNewer(t *testing.T) {
	l := two() // which ends at 4, of the term 3
	for _, n := range slices.Concat(ends, []int64{3, 4, 5}) {
		for _, term := range []int64{4, 5, 1 << 32, top, top + 1, math.MaxInt64} {
			wantNewer(t, l, n, term, true)
		}
		for _, term := range []int64{math.MinInt64, -3, -1, 0, 1, 2} {
			wantNewer(t, l, n, term, false)
		}
		wantNewer(t, l, n, 3, n >= 4)
	}
	wantNewer(t, api.Trail{}, 0, 0, true)
	wantNewer(t, api.Trail{}, 1, 0, true)
	wantNewer(t, api.Trail{}, -1, 0, false)
	wantNewer(t, api.Trail{}, -1, 1, true)
	wantNewer(t, api.Trail{}, 9, -1, false)
	wantNewer(t, log(7, 2), 7, 2, true)
	wantNewer(t, log(7, 2), 6, 2, false)
	wantNewer(t, log(7, 2), 6, 3, true)
	wantNewer(t, log(7, 2), 8, 1, false)
	wantNewer(t, log(top, top), top, top, true)
	wantNewer(t, log(top, top), top-1, top, false)
	wantNewer(t, log(top, top), 0, top+1, true)
}

// A log is as new as itself; of two, one is as new as the other.
func TestNewerOfEachTwo(t *testing.T) {
	for _, a := range rights {
		aLast, aTerm := paperLast(a)
		wantNewer(t, a, aLast, aTerm, true)
		for _, b := range rights {
			bLast, bTerm := paperLast(b)
			wantNewer(t, a, bLast, bTerm, paperNewer(a, bLast, bTerm))
			if !trail.Newer(a, bLast, bTerm) && !trail.Newer(b, aLast, aTerm) {
				t.Errorf("P13.2: %s and %s: none is as new as the other", told(a), told(b))
			}
		}
		for _, n := range ends {
			for _, term := range ends {
				wantNewer(t, a, n, term, paperNewer(a, n, term))
			}
		}
	}
}

func TestAppend(t *testing.T) {
	wantAppend(t, api.Trail{}, api.Entry{Term: 1}, api.Trail{Entries: []api.Entry{{Term: 1}}}, true)
	wantAppend(t, two(), api.Entry{Term: 3, Data: "d2"}, log(2, 1, 1, 3, 3), true)
	wantAppend(t, two(), api.Entry{Term: 8, Data: "d2"}, log(2, 1, 1, 3, 8), true)
	wantAppend(t, two(), api.Entry{Term: top, Data: "d2"}, log(2, 1, 1, 3, top), true)
	for _, term := range []int64{math.MinInt64, -3, -1, 0, 1, 2, top + 1, math.MaxInt64} {
		wantAppend(t, two(), api.Entry{Term: term}, api.Trail{}, false)
	}
	wantAppend(t, log(7, 0), api.Entry{Term: 1, Data: "d0"}, log(7, 0, 1), true)
	wantAppend(t, log(7, 0), api.Entry{}, api.Trail{}, false)
	wantAppend(t, log(7, 5), api.Entry{Term: 5, Data: "d0"}, log(7, 5, 5), true)
	wantAppend(t, log(7, 5), api.Entry{Term: 4}, api.Trail{}, false)
	wantAppend(t, api.Trail{}, api.Entry{Term: 1, Data: data(api.MaxData)}, api.Trail{Entries: []api.Entry{{Term: 1, Data: data(api.MaxData)}}}, true)
	wantAppend(t, api.Trail{}, api.Entry{Term: 1, Data: data(api.MaxData + 1)}, api.Trail{}, false)
}

func TestAppendAtTheLimits(t *testing.T) {
	last := api.Entry{Term: 1, Data: "d" + strconv.Itoa(api.MaxLog-1)}
	wantAppend(t, many(0, 0, api.MaxLog-1, 1), last, many(0, 0, api.MaxLog, 1), true)
	wantAppend(t, many(9, 1, api.MaxLog-1, 1), last, many(9, 1, api.MaxLog, 1), true)
	wantAppend(t, many(0, 0, api.MaxLog, 1), last, api.Trail{}, false)
	wantAppend(t, many(9, 1, api.MaxLog, 1), api.Entry{Term: top}, api.Trail{}, false)
	wantAppend(t, log(top-1, 3), api.Entry{Term: 3, Data: "d0"}, log(top-1, 3, 3), true)
	wantAppend(t, log(top, 3), api.Entry{Term: 3}, api.Trail{}, false)
	wantAppend(t, log(top-2, 3, 3), api.Entry{Term: 4, Data: "d1"}, log(top-2, 3, 3, 4), true)
	wantAppend(t, log(top-2, 3, 3, 4), api.Entry{Term: 4}, api.Trail{}, false)
	for _, l := range rights {
		for _, term := range slices.Concat(ends, []int64{3, 4, 5, 6, 7, 8, 9, 10}) {
			for _, bytes := range []int{0, 1, api.MaxData, api.MaxData + 1} {
				holdAppend(t, l, api.Entry{Term: term, Data: data(bytes)})
			}
		}
	}
}

// A prev or a term below 0 is refused ahead of all else, also where the log would stay as it is.
func TestPutRefused(t *testing.T) {
	l := log(3, 2, 2, 4, 4)
	for _, prev := range []int64{math.MinInt64, math.MinInt64 + 1, -top, -1} {
		for _, term := range []int64{-1, 0, 1, 2, 4} {
			wantNoPut(t, l, prev, term, nil, 0)
			wantNoPut(t, l, prev, term, list(4), 0)
			wantNoPut(t, l, prev, term, list(1, 1, 1, 1, 1, 1, 1), 0)
			wantNoPut(t, l, prev, term, list(2, 2, 2, 2, 2, 2, 2), 0)
			wantNoPut(t, api.Trail{}, prev, term, nil, math.MinInt64)
		}
	}
	for _, term := range []int64{math.MinInt64, -top, -2, -1} {
		for prev := range int64(9) {
			wantNoPut(t, l, prev, term, nil, 0)
			wantNoPut(t, l, prev, term, list(2, 2, 2, 4), 0)
		}
		wantNoPut(t, api.Trail{}, 0, term, nil, 0)
	}
	wantNoPut(t, l, 0, -1, nil, 0) // though t would stay
}

// Entries that don't follow are refused, though they were left out, or had their like in the log.
func TestPutOfEntriesThatDoNotFollow(t *testing.T) {
	l := log(3, 2, 2, 4, 4)
	long := []api.Entry{{Term: 2, Data: data(api.MaxData + 1)}}
	for _, entries := range [][]api.Entry{list(0), list(-1), list(top + 1), list(math.MaxInt64), list(math.MinInt64), list(2, 1), list(4, 3), list(2, 4, 0), list(2, 4, 3), list(2, 2, 4, 4, 2), list(2, top+1), long, append(list(2), long...), append(list(2, 4), api.Entry{Term: 4, Data: data(api.MaxText)})} {
		for prev := range int64(8) {
			for term := range int64(5) {
				wantNoPut(t, l, prev, term, entries, 0)
				wantNoPut(t, l, prev, term, entries, math.MaxInt64)
			}
		}
	}
	wantNoPut(t, l, 3, 2, list(1), 0)
	wantNoPut(t, l, 0, 2, list(1), 0)              // below term, and left out
	wantNoPut(t, l, 0, 3, list(2, 2, 2, 2), 0)     // the same, with one more that agrees
	wantPut(t, l, 0, 2, list(2, 2, 2), 0, l, true) // at term
	wantPut(t, l, 0, 1, list(2, 2, 2), 0, l, true)
	wantPut(t, l, 0, 0, list(1, 2, 2), 0, l, true)
	wantPut(t, log(0, 0), 0, 0, []api.Entry{{Term: 1, Data: data(api.MaxData)}}, 0, api.Trail{Entries: []api.Entry{{Term: 1, Data: data(api.MaxData)}}}, true)
	wantPut(t, log(0, 0), 0, 0, list(top), 0, log(0, 0, top), true)
}

// prev must be a number of the log's, at Base too, and have the term.
func TestPutBehindEachNumber(t *testing.T) {
	l := log(3, 2, 2, 4, 4)
	for prev := int64(3); prev < 9; prev++ {
		for term := range int64(7) {
			have, ok := paperTerm(l, prev)
			if ok && have == term {
				wantPut(t, l, prev, term, nil, 0, l, true)
				wantPut(t, l, prev, term, nil, math.MaxInt64, l, true)
				holdPut(t, l, prev, term, list(5, 6), 0)
				continue
			}
			wantNoPut(t, l, prev, term, nil, 0)
			wantNoPut(t, l, prev, term, list(6), 0)
		}
	}
	for _, prev := range []int64{7, 8, 3 + 1<<32, top, top + 1, math.MaxInt64 - 1, math.MaxInt64} {
		for _, term := range []int64{0, 2, 4, top, math.MaxInt64} {
			wantNoPut(t, l, prev, term, nil, 0)
			wantNoPut(t, l, prev, term, list(top), math.MinInt64)
		}
	}
	wantPut(t, api.Trail{}, 0, 0, nil, 0, api.Trail{}, true)
	wantNoPut(t, api.Trail{}, 0, 1, nil, 0)
	wantNoPut(t, api.Trail{}, 1, 0, nil, 0)
	wantPut(t, log(7, 0), 7, 0, nil, 0, log(7, 0), true)
	wantPut(t, log(7, 0), 7, 0, list(3), 7, log(7, 0, 3), true)
	wantPut(t, log(7, 5), 7, 5, list(5, 6), 7, log(7, 5, 5, 6), true)
	wantNoPut(t, log(7, 5), 7, 0, list(5), 0)
	wantNoPut(t, log(7, 5), 7, 4, list(5), 0)
}

func TestPutBelowTheBase(t *testing.T) {
	l := log(3, 2, 2, 4)
	for _, term := range []int64{0, 1, 2, 3, 9, top, top + 1, math.MaxInt64} { // no entries: they follow whatever term, and are fewer
		for prev := range int64(3) {
			wantPut(t, l, prev, term, nil, math.MaxInt64, l, true)
			wantPut(t, l, prev, term, nil, math.MinInt64, l, true)
		}
	}
	wantPut(t, l, 0, 0, list(1), 9, l, true) // fewer than are left out
	wantPut(t, l, 0, 0, list(7), 9, l, true) // whatever their terms
	wantPut(t, l, 0, 0, list(7, 7), 9, l, true)
	wantPut(t, l, 1, 9, list(9), 9, l, true)
	wantPut(t, l, 0, 0, list(1, 1, 2), 9, l, true) // as many
	wantPut(t, l, 0, 0, list(2, 2, 2), 9, l, true)
	wantNoPut(t, l, 0, 0, list(1, 1, 1), 0)
	wantNoPut(t, l, 0, 0, list(1, 1, 3), 0)
	wantNoPut(t, l, 0, 0, list(1, 2, 3), 0)
	wantNoPut(t, l, 2, 2, list(3), 0)
	wantNoPut(t, l, 2, 1, list(1), 0)
	wantPut(t, l, 2, 0, list(2), 0, l, true)
	wantPut(t, l, 2, 1, list(2), 0, l, true) // the term of what lies ahead of the base isn't known
	wantPut(t, l, 2, 2, list(2), 0, l, true)
	wantNoPut(t, l, 2, 3, list(3), 0)
	wantPut(t, l, 0, 0, list(1, 1, 2, 2), 9, l, true) // more, which agree
	wantPut(t, l, 0, 0, list(1, 1, 2, 2, 4), 9, l, true)
	wantNoPut(t, l, 0, 0, list(1, 1, 1, 2, 4), 0) // the last one left out doesn't agree, those behind it do
	put := named("p", list(1, 1, 2, 2, 3, 3))
	wantPut(t, l, 0, 0, put, 4, api.Trail{Base: 3, BaseTerm: 2, Entries: slices.Concat(l.Entries[:1], put[4:])}, true)
	wantNoPut(t, l, 0, 0, put, 5)
	put = named("p", list(1, 1, 2, 3))
	wantPut(t, l, 0, 0, put, 3, api.Trail{Base: 3, BaseTerm: 2, Entries: put[3:]}, true)
	wantNoPut(t, l, 0, 0, put, 4)
	put = named("p", list(2, 2, 4, 5))
	wantPut(t, l, 2, 2, put, 5, api.Trail{Base: 3, BaseTerm: 2, Entries: slices.Concat(l.Entries, put[3:])}, true)
	wantNoPut(t, l, 2, 2, put, 6)
	wantPut(t, log(3, 0), 1, 0, nil, 0, log(3, 0), true)
	wantPut(t, log(3, 0), 1, 0, list(1), 0, log(3, 0), true)
	wantNoPut(t, log(3, 0), 1, 0, list(1, 1), 0) // the base has the term 0, which no entry has
	wantPut(t, log(top, top), 0, 0, list(1, 2, 3), 0, log(top, top), true)
	wantPut(t, log(top, top), top-1, 0, list(top), 0, log(top, top), true)
	wantNoPut(t, log(top, top), top-1, 0, list(top-1), 0)
	wantNoPut(t, log(top, top), top-1, 0, list(top, top), 0) // past 2^40
}

// What stands there and agrees stays, with its own Data, and so does all behind it, if all that comes agrees.
func TestPutOfEntriesThatAgree(t *testing.T) {
	l := log(3, 2, 2, 4, 4, 5)
	for from := range 5 {
		for to := from; to < 5; to++ {
			prev := 3 + int64(from)
			term, _ := paperTerm(l, prev)
			for _, fixed := range ends {
				wantPut(t, l, prev, term, named("p", l.Entries[from:to]), fixed, l, true)
			}
		}
	}
}

// Each place at which entries part from the log's, and each fixed: at, ahead of and behind that place.
func TestPutOfEntriesThatPart(t *testing.T) {
	l := log(3, 2, 2, 4, 4, 5)
	for from := range 5 {
		prev := 3 + int64(from)
		term, _ := paperTerm(l, prev)
		for parts := from; parts < 5; parts++ {
			for more := 1; more < 4; more++ {
				put := named("p", slices.Concat(l.Entries[from:parts], list(6, 6, 7)[:more]))
				place := 4 + int64(parts)
				want := api.Trail{Base: 3, BaseTerm: 2, Entries: slices.Concat(l.Entries[:parts], put[parts-from:])}
				for _, fixed := range []int64{math.MinInt64, -1, 0, 1, 2, 3, prev, place - 1} {
					if fixed < place {
						wantPut(t, l, prev, term, put, fixed, want, true)
					}
				}
				for _, fixed := range []int64{place, place + 1, 9, top, math.MaxInt64 - 1, math.MaxInt64} {
					if fixed >= place {
						wantNoPut(t, l, prev, term, put, fixed)
					}
				}
			}
		}
	}
	wantPut(t, l, 3, 2, list(3), 3, log(3, 2, 3), true) // a lower term than what is left out
	wantPut(t, l, 5, 4, list(5), 0, api.Trail{Base: 3, BaseTerm: 2, Entries: slices.Concat(l.Entries[:2], list(5))}, true)
	wantPut(t, log(0, 0, 5, 5), 0, 0, list(1, 2), 0, log(0, 0, 1, 2), true)
}

func TestPutAtTheLimits(t *testing.T) {
	const full = api.MaxLog
	wantPut(t, api.Trail{}, 0, 0, many(0, 0, full, 1).Entries, 0, many(0, 0, full, 1), true)
	wantNoPut(t, api.Trail{}, 0, 0, many(0, 0, full+1, 1).Entries, 0)
	wantPut(t, log(9, 1), 9, 1, many(0, 0, full, 1).Entries, 0, many(9, 1, full, 1), true)
	wantNoPut(t, log(9, 1), 9, 1, many(0, 0, full+1, 1).Entries, 0)
	l := many(9, 1, full, 1)
	last := int64(9 + full)
	wantNoPut(t, l, last, 1, list(1), 0)
	wantPut(t, l, last-1, 1, list(1), 0, l, true)
	wantPut(t, l, last-1, 1, list(1), math.MaxInt64, l, true)
	wantNoPut(t, l, last-1, 1, list(1, 1), 0)
	wantPut(t, l, last, 1, nil, 0, l, true)
	for _, entries := range [][]api.Entry{list(2), list(2, 2), list(1, 2), list(1, 1, 2), list(1, 1, 1, 1)} {
		for prev := last - 3; prev <= last; prev++ {
			holdPut(t, l, prev, 1, entries, 0)
		}
	}
	ten := slices.Concat(list(1, 1, 1, 1, 1, 1, 1, 1, 1), l.Entries) // what is left out doesn't count
	wantPut(t, log(9, 1), 0, 0, ten, 0, l, true)
	wantPut(t, l, 0, 0, ten, 0, l, true)
	wantNoPut(t, l, 0, 0, append(slices.Clone(ten), api.Entry{Term: 1}), 0)
	wantPut(t, log(0, 0), 0, 0, list(1), 0, log(0, 0, 1), true)
	wantPut(t, log(top-1, 3), top-1, 3, list(3), 0, log(top-1, 3, 3), true)
	wantNoPut(t, log(top-1, 3), top-1, 3, list(3, 3), 0)
	wantNoPut(t, log(top, 3), top, 3, list(3), 0)
	wantPut(t, log(top, 3), top, 3, nil, 0, log(top, 3), true)
	wantPut(t, log(top-2, 3, 3, 4), top-2, 3, list(3, 4), top, log(top-2, 3, 3, 4), true)
	wantNoPut(t, log(top-2, 3, 3, 4), top-2, 3, list(3, 4, 4), 0)
	wantPut(t, log(top-2, 3, 3, 4), top-2, 3, list(5, 5), top-2, log(top-2, 3, 5, 5), true)
	wantNoPut(t, log(top-2, 3, 3, 4), top-2, 3, list(5, 5, 5), top-2)
	wantPut(t, log(top-full, 1), top-full, 1, many(0, 0, full, 1).Entries, 0, many(top-full, 1, full, 1), true)
	wantNoPut(t, log(top-full+1, 1), top-full+1, 1, many(0, 0, full, 1).Entries, 0)
	wantPut(t, api.Trail{Base: 3}, 0, 0, many(0, 0, 2, 1).Entries, 0, api.Trail{Base: 3}, true)
	wantPut(t, log(1<<20, 1), 0, 0, many(0, 0, 100000, 1).Entries, 0, log(1<<20, 1), true) // fewer, though more than a log has
	wantPut(t, log(100000, 1), 0, 0, many(0, 0, 100000, 1).Entries, 0, log(100000, 1), true)
}

// rising is all lists of at most some terms, each 1 to most, none below that ahead of it.
func rising(low, most int64, length int) [][]int64 {
	all := [][]int64{nil}
	if length == 0 {
		return all
	}
	for term := low; term <= most; term++ {
		for _, rest := range rising(term, most, length-1) {
			all = append(all, append([]int64{term}, rest...))
		}
	}
	return all
}

// smalls are all small right logs: bases 0 to 2, terms to 3, three entries.
func smalls() []api.Trail {
	var all []api.Trail
	for base := range int64(3) {
		for baseTerm := range int64(4) {
			if base == 0 && baseTerm > 0 {
				continue
			}
			for _, terms := range rising(max(1, baseTerm), 3, 3) {
				all = append(all, log(base, baseTerm, terms...))
			}
		}
	}
	return all
}

// Each small log, with each small call.
func TestSmallLogs(t *testing.T) {
	for _, l := range smalls() {
		wantCheck(t, l, true)
		n, term := paperLast(l)
		wantLast(t, l, n, term)
		for n := int64(-2); n < 9; n++ {
			holdNumber(t, l, n)
			for term := int64(-1); term < 5; term++ {
				wantNewer(t, l, n, term, paperNewer(l, n, term))
			}
			for most := -2; most < 6; most++ {
				wantSlice(t, l, n, most, paperSlice(l, n, most))
			}
		}
		for term := int64(-1); term < 6; term++ {
			holdAppend(t, l, api.Entry{Term: term, Data: "e"})
		}
	}
}

func TestSmallPuts(t *testing.T) {
	var puts [][]api.Entry
	for _, terms := range rising(1, 4, 3) {
		puts = append(puts, named("p", list(terms...)))
	}
	puts = append(puts, list(0), list(2, 1), list(1, 2, 1), list(1, 1, 1, 1), list(1, 1, 1, 1, 1), list(1, 2, 2, 2, 3, 3))
	done, refused := 0, 0
	for _, l := range smalls() {
		for _, put := range puts {
			for prev := int64(-1); prev < 7; prev++ {
				for term := int64(-1); term < 5; term++ {
					for fixed := int64(-1); fixed < 7; fixed++ {
						want, ok := paperPut(l, prev, term, put, fixed)
						wantPut(t, l, prev, term, put, fixed, want, ok)
						if ok {
							done++
						} else {
							refused++
						}
					}
				}
			}
		}
		if t.Failed() {
			return
		}
	}
	if done < 50000 || refused < 50000 {
		t.Errorf("%d were put, %d refused", done, refused)
	}
}

func TestCut(t *testing.T) {
	l := log(3, 2, 2, 4, 4, 5)
	terms := []int64{2, 2, 4, 4, 5}
	for i, term := range terms {
		to := 3 + int64(i)
		wantCut(t, l, to, api.Trail{Base: to, BaseTerm: term, Entries: l.Entries[i:]}, true)
	}
	for _, to := range slices.Concat(ends, []int64{2, 8, 9, 3 + 1<<32, 7 - 1<<32}) {
		wantCut(t, l, to, api.Trail{}, false)
	}
	wantCut(t, api.Trail{}, 0, api.Trail{}, true)
	wantCut(t, api.Trail{}, 1, api.Trail{}, false)
	wantCut(t, log(7, 0), 7, log(7, 0), true)
	wantCut(t, log(7, 4), 7, log(7, 4), true)
	wantCut(t, log(7, 4), 8, api.Trail{}, false)
	wantCut(t, log(7, 4), 6, api.Trail{}, false)
	wantCut(t, log(0, 0, 6), 1, log(1, 6), true)
	wantCut(t, log(0, 0, 6), 0, log(0, 0, 6), true)
	wantCut(t, log(top, top), top, log(top, top), true)
	wantCut(t, log(top-1, 1, top), top, log(top, top), true)
	wantCut(t, many(0, 0, api.MaxLog, 5), api.MaxLog, log(api.MaxLog, 5), true)
}

// A cut log is right, tells of each number that it has what the whole one tells, and may be cut once more.
func TestCutOnceMore(t *testing.T) {
	for _, l := range slices.Concat(smalls(), []api.Trail{log(3, 2, 2, 4, 4, 5), log(top-3, 1, 2, 2, 9), many(0, 0, 20, 3)}) {
		last, term := trail.Last(l)
		for to := l.Base; to <= last; to++ {
			cut, ok := trail.Cut(l, to)
			if !ok || !trail.Check(cut) {
				t.Fatalf("P13.5: Cut(%s, %d): %s, %v", told(l), to, told(cut), ok)
			}
			wantLast(t, cut, last, term)
			for n := to; n <= last; n++ {
				whole, ok := trail.Term(l, n)
				wantTerm(t, cut, n, whole, ok)
				wantSlice(t, cut, n+1, 9, trail.Slice(l, n+1, 9))
				want, _ := trail.Cut(l, n)
				wantCut(t, cut, n, want, true)
			}
			wantTerm(t, cut, to-1, 0, false)
		}
	}
}

// What is put and isn't left out stands behind prev, whatever stood there; put once more it changes nothing.
func TestPutStands(t *testing.T) {
	r := rand.New(rand.NewSource(1))
	for range 20000 {
		l := someLog(r)
		prev, term, entries := somePut(r, l)
		out, ok := trail.Put(l, prev, term, entries, int64(r.Intn(9)))
		if !ok {
			continue
		}
		wantCheck(t, out, true)
		for i, e := range entries {
			if n := prev + 1 + int64(i); n > l.Base {
				wantTerm(t, out, n, e.Term, true)
			}
		}
		wantPut(t, out, prev, term, entries, math.MaxInt64, out, true)
		if t.Failed() {
			return
		}
	}
}

// A log that was cut takes what the whole one takes, and comes to the same.
func TestPutBehindACut(t *testing.T) {
	r := rand.New(rand.NewSource(2))
	held := 0
	for range 20000 {
		l := someLog(r)
		if !trail.Check(l) || len(l.Entries) == 0 {
			continue
		}
		to := l.Base + int64(r.Intn(len(l.Entries)+1))
		cut, _ := trail.Cut(l, to)
		prev, term, entries := somePut(r, l)
		whole, ok := trail.Put(l, prev, term, entries, to)
		if !ok {
			continue
		}
		want, ok := trail.Cut(whole, to)
		if !ok {
			t.Fatalf("P13.4: Put(%s, %d, %d, {%s }, %d) lost an entry that is fixed", told(l), prev, term, toldList(entries), to)
		}
		wantPut(t, cut, prev, term, entries, to, want, true)
		held++
	}
	if held < 3000 {
		t.Errorf("only %d were held", held)
	}
}

// someTerm is a term by chance, not below another one most often.
func someTerm(r *rand.Rand, low int64) int64 {
	switch r.Intn(40) {
	case 0:
		return ends[r.Intn(len(ends))]
	case 1:
		return int64(r.Intn(5))
	case 2:
		return low + 1<<32
	default:
		return max(1, low+int64(r.Intn(5)/3))
	}
}

func someEntries(r *rand.Rand, low int64, most int) []api.Entry {
	var l []api.Entry
	for range r.Intn(most + 1) {
		low = someTerm(r, low)
		l = append(l, api.Entry{Term: low, Data: data(r.Intn(3)) + strconv.Itoa(r.Intn(100))})
	}
	if len(l) > 0 && r.Intn(60) == 0 {
		l[r.Intn(len(l))].Data = data(api.MaxData + r.Intn(2))
	}
	return l
}

// someLog is a log by chance: most often a right one, now and then near its limits.
func someLog(r *rand.Rand) api.Trail {
	l := api.Trail{Base: int64(r.Intn(6)), BaseTerm: int64(r.Intn(4))}
	switch r.Intn(12) {
	case 0:
		l.Base = top - int64(r.Intn(8))
	case 1:
		l.Base = ends[r.Intn(len(ends))]
	}
	if l.Base == 0 && r.Intn(30) > 0 {
		l.BaseTerm = 0
	}
	l.Entries = someEntries(r, l.BaseTerm, 8)
	return l
}

// somePut is what may be put: most often behind a number of the log's with the right term, beginning with what stands there.
func somePut(r *rand.Rand, l api.Trail) (int64, int64, []api.Entry) {
	at := r.Intn(len(l.Entries) + 1)
	prev, term := l.Base+int64(at), l.BaseTerm
	if at > 0 {
		term = l.Entries[at-1].Term
	}
	stands := l.Entries[at:]
	entries := named("p", stands[:r.Intn(len(stands)+1)])
	if r.Intn(3) == 0 {
		back := r.Intn(4)
		prev -= int64(back)
		if at < back { // the entries from prev on, as another node would know them
			entries = slices.Concat(list(slices.Repeat([]int64{max(1, l.BaseTerm)}, back-at)...), l.Entries[:at], entries)
			term = max(0, l.BaseTerm-int64(r.Intn(2)))
		} else {
			entries = slices.Concat(l.Entries[at-back:at], entries)
			term = l.BaseTerm
			if at > back {
				term = l.Entries[at-back-1].Term
			}
		}
	}
	low := term
	if len(entries) > 0 {
		low = entries[len(entries)-1].Term
	}
	entries = append(entries, someEntries(r, low, 4)...)
	switch r.Intn(12) {
	case 0:
		term = someTerm(r, term)
	case 1:
		prev += int64(r.Intn(3) - 1)
	case 2:
		prev = ends[r.Intn(len(ends))]
	}
	return prev, term, entries
}

func someFixed(r *rand.Rand, l api.Trail) int64 {
	if r.Intn(8) == 0 {
		return ends[r.Intn(len(ends))]
	}
	return max(l.Base, 0) + int64(r.Intn(10)-2)
}

func TestByChance(t *testing.T) {
	r := rand.New(rand.NewSource(3))
	right, put, refused := 0, 0, 0
	for range 200000 {
		l := someLog(r)
		wantCheck(t, l, paperCheck(l))
		last, lastTerm := paperLast(l)
		wantLast(t, l, last, lastTerm)
		n, term, most := someFixed(r, l), someTerm(r, lastTerm), r.Intn(12)-2
		holdNumber(t, l, n)
		wantSlice(t, l, n, most, paperSlice(l, n, most))
		wantNewer(t, l, n, term, paperNewer(l, n, term))
		holdAppend(t, l, api.Entry{Term: term, Data: "e"})
		prev, of, entries := somePut(r, l)
		fixed := someFixed(r, l)
		holdPut(t, l, prev, of, entries, fixed)
		if t.Failed() {
			return
		}
		if paperCheck(l) {
			right++
		}
		if _, ok := paperPut(l, prev, of, entries, fixed); ok {
			put++
		} else {
			refused++
		}
	}
	if right < 100000 || put < 40000 || refused < 40000 {
		t.Errorf("chance was one-sided: %d right logs, %d put, %d refused", right, put, refused)
	}
}

// One log by a script of calls, each behind the other, from its beginning or from near the last number on.
func TestScripts(t *testing.T) {
	r := rand.New(rand.NewSource(4))
	for script := range 300 {
		var l api.Trail
		if script%3 == 0 {
			l = log(top-int64(r.Intn(40)), int64(r.Intn(4)))
		}
		for range 100 {
			_, term := paperLast(l)
			var want api.Trail
			var ok bool
			switch r.Intn(6) {
			case 0, 1:
				e := api.Entry{Term: someTerm(r, term), Data: strconv.Itoa(r.Intn(100))}
				want, ok = paperAppend(l, e)
				wantAppend(t, l, e, want, ok)
			case 2:
				to := l.Base + int64(r.Intn(5)-1)
				want, ok = paperCut(l, to)
				wantCut(t, l, to, want, ok)
			default:
				prev, of, entries := somePut(r, l)
				fixed := someFixed(r, l)
				want, ok = paperPut(l, prev, of, entries, fixed)
				wantPut(t, l, prev, of, entries, fixed, want, ok)
			}
			if t.Failed() {
				return
			}
			if ok {
				l = want
			}
		}
	}
}

// spare is what stands in lists' spare room: entries that would make a difference.
var spare = []api.Entry{{Term: 9, Data: "s0"}, {Term: 9, Data: "s1"}, {Term: 0, Data: "s2"}, {Term: top + 1, Data: "s3"}}

// room is a list with spare room behind it.
func room(l []api.Entry) []api.Entry { return slices.Concat(l, spare)[:len(l)] }

// stays tells whether a list is what it was, its spare room too.
func stays(l, was []api.Entry) bool {
	return slices.Equal(l, was) && slices.Equal(l[:len(l)+len(spare)], slices.Concat(was, spare))
}

// No call changes what is handed in, its spare room neither, and what stands in that room says nothing.
func TestArgumentsStay(t *testing.T) {
	r := rand.New(rand.NewSource(5))
	for range 30000 {
		l := someLog(r)
		prev, of, entries := somePut(r, l)
		fixed, most, e := someFixed(r, l), r.Intn(12)-2, api.Entry{Term: 9, Data: "e"}
		roomy, put := l, room(entries)
		roomy.Entries = room(l.Entries)
		wantCheck(t, roomy, paperCheck(l))
		last, term := paperLast(l)
		wantLast(t, roomy, last, term)
		wantNewer(t, roomy, fixed, of, paperNewer(l, fixed, of))
		wantSlice(t, roomy, fixed, most, paperSlice(l, fixed, most))
		term, ok := paperTerm(l, fixed)
		wantTerm(t, roomy, fixed, term, ok)
		want, ok := paperCut(l, fixed)
		wantCut(t, roomy, fixed, want, ok)
		want, ok = paperAppend(l, e)
		wantAppend(t, roomy, e, want, ok)
		want, ok = paperPut(l, prev, of, entries, fixed)
		wantPut(t, roomy, prev, of, put, fixed, want, ok)
		if !stays(roomy.Entries, l.Entries) || roomy.Base != l.Base || roomy.BaseTerm != l.BaseTerm {
			t.Fatalf("rule 5: the log %s was changed: %s", told(l), told(roomy))
		}
		if !stays(put, entries) {
			t.Fatalf("rule 5: the entries{%s } were changed:{%s }", toldList(entries), toldList(put))
		}
		if t.Failed() {
			return
		}
	}
}

// spoil writes over a list, its spare room too.
func spoil(l []api.Entry) {
	l = l[:cap(l)]
	for i := range l {
		l[i] = api.Entry{Term: -7, Data: "spoilt"}
	}
}

// answers are the lists that the calls answer of a log.
func answers(l api.Trail, prev, of int64, put []api.Entry, fixed int64) [][]api.Entry {
	appended, _ := trail.Append(l, api.Entry{Term: top, Data: "e"})
	done, _ := trail.Put(l, prev, of, put, fixed)
	cut, _ := trail.Cut(l, fixed)
	whole, _ := trail.Cut(l, l.Base)
	all := [][]api.Entry{appended.Entries, done.Entries, cut.Entries, whole.Entries}
	return append(all, trail.Slice(l, fixed, 2), trail.Slice(l, 0, 3), trail.Slice(l, 0, math.MaxInt))
}

func clones(lists [][]api.Entry) [][]api.Entry {
	var all [][]api.Entry
	for _, l := range lists {
		all = append(all, slices.Clone(l))
	}
	return all
}

// An answer is new memory: whoever writes into it changes no argument and no other answer, nor is it changed by way of an argument.
func TestAnswersAreNew(t *testing.T) {
	r := rand.New(rand.NewSource(6))
	for range 10000 {
		l := someLog(r)
		prev, of, entries := somePut(r, l)
		fixed := someFixed(r, l)
		roomy, put := l, room(entries)
		roomy.Entries = room(l.Entries)
		got := answers(roomy, prev, of, put, fixed)
		was := clones(got)
		for i := range got {
			spoil(got[i])
			for j := i + 1; j < len(got); j++ {
				if !slices.Equal(got[j], was[j]) {
					t.Fatalf("rule 5: the answer %d was changed by way of the answer %d: %s", j, i, told(l))
				}
			}
			if !stays(roomy.Entries, l.Entries) || !stays(put, entries) {
				t.Fatalf("rule 5: an argument was changed by way of the answer %d: %s", i, told(l))
			}
		}
		got = answers(roomy, prev, of, put, fixed)
		spoil(roomy.Entries)
		spoil(put)
		for i := range got {
			if !slices.Equal(got[i], was[i]) {
				t.Fatalf("rule 5: the answer %d was changed by way of an argument: %s", i, told(l))
			}
		}
	}
}

// nil and an empty list are the same.
func TestEmptyLists(t *testing.T) {
	for _, base := range []api.Trail{{}, {Base: 7, BaseTerm: 2}} {
		for _, none := range [][]api.Entry{nil, {}, room(nil)} {
			l := api.Trail{Base: base.Base, BaseTerm: base.BaseTerm, Entries: none}
			wantCheck(t, l, true)
			wantLast(t, l, base.Base, base.BaseTerm)
			wantCut(t, l, base.Base, base, true)
			wantSlice(t, l, 0, 9, nil)
			wantAppend(t, l, api.Entry{Term: 3, Data: "d0"}, log(base.Base, base.BaseTerm, 3), true)
			for _, put := range [][]api.Entry{nil, {}, room(nil)} {
				wantPut(t, l, base.Base, base.BaseTerm, put, 0, base, true)
				wantPut(t, two(), 3, 1, put, 0, two(), true)
				wantPut(t, two(), 0, 0, put, 0, two(), true)
			}
		}
	}
}

// One list may be handed in for both.
func TestOneListForBoth(t *testing.T) {
	l := log(0, 0, 1, 2, 2)
	wantPut(t, l, 0, 0, l.Entries, 9, l, true)
	wantPut(t, l, 3, 2, l.Entries[1:], 3, api.Trail{Entries: slices.Concat(l.Entries, l.Entries[1:])}, true)
	wantPut(t, l, 0, 0, l.Entries[1:], 0, api.Trail{Entries: l.Entries[1:]}, true)
	if !same(l, log(0, 0, 1, 2, 2)) {
		t.Errorf("rule 5: the log was changed: %s", told(l))
	}
}
