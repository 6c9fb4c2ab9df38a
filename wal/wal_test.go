package wal_test

import (
	"encoding/binary"
	"fmt"
	"hash/crc32"
	"maps"
	"math"
	"math/rand"
	"regexp"
	"slices"
	"strconv"
	"strings"
	"testing"

	"matins/api"
	"matins/disk"
	"matins/wal"
)

// last is the name with the greatest number that there is.
const last = "log-999999999"

// files are a disk's, by their names.
type files map[string]string

func uvarint(n uint64) string { return string(binary.AppendUvarint(nil, n)) }

// frame is chapter 3's, by the library's means.
func frame(s string) string {
	b := append(binary.AppendUvarint(nil, uint64(len(s))), s...)
	return string(binary.LittleEndian.AppendUint32(b, crc32.ChecksumIEEE(b)))
}

func frames(recs ...string) string {
	var all strings.Builder
	for _, rec := range recs {
		all.WriteString(frame(rec))
	}
	return all.String()
}

// told is a file whose first frame tells n frames, whatever stands behind it.
func told(n uint64, recs ...string) string { return frame(uvarint(n)) + frames(recs...) }

// laid is a file as a log with these records is laid anew.
func laid(recs ...string) string { return told(uint64(len(recs)), recs...) }

func spoiltSum(s string, at int) string { return s[:at] + string(s[at]^1) + s[at+1:] }

func texts(list [][]byte) []string {
	var all []string
	for _, b := range list {
		all = append(all, string(b))
	}
	return all
}

func lists(recs ...string) [][]byte {
	var all [][]byte
	for _, rec := range recs {
		all = append(all, []byte(rec))
	}
	return all
}

// diskOf is a disk with these files, synced.
func diskOf(t testing.TB, fs files) *disk.Disk {
	t.Helper()
	d := disk.New()
	for _, name := range slices.Sorted(maps.Keys(fs)) {
		write(t, d, name, fs[name])
		if e := d.Sync(name); e != api.OK {
			t.Fatalf("Sync(%q): %d", name, e)
		}
	}
	return d
}

func write(t testing.TB, d *disk.Disk, name, data string) {
	t.Helper()
	if e := d.Append(name, []byte(data)); e != api.OK {
		t.Fatalf("Append(%q): %d", name, e)
	}
}

func filesOf(d *disk.Disk) files {
	fs := files{}
	for _, name := range d.Names() {
		b, _ := d.Read(name)
		fs[name] = string(b)
	}
	return fs
}

func (fs files) size() int {
	sum := 0
	for _, s := range fs {
		sum += len(s)
	}
	return sum
}

// with is these files and one more.
func (fs files) with(name, s string) files {
	more := maps.Clone(fs)
	more[name] = s
	return more
}

// besides are those of the files that others hasn't, or has with other bytes.
func (fs files) besides(others files) string {
	all := ""
	for _, name := range slices.Sorted(maps.Keys(fs)) {
		if s, there := others[name]; !there || s != fs[name] {
			all += fmt.Sprintf(" %s:%d bytes %.30x", name, len(fs[name]), fs[name])
		}
	}
	return all
}

func wantFiles(t testing.TB, d *disk.Disk, want files) {
	t.Helper()
	if got := filesOf(d); !maps.Equal(got, want) {
		t.Errorf("files:%s; want%s", got.besides(want), want.besides(got))
	}
}

func wantLog(t testing.TB, w *wal.Wal, file string, count int) {
	t.Helper()
	if w.File() != file || w.Count() != count {
		t.Errorf("P10.3: %d records in %q, want %d in %q", w.Count(), w.File(), count, file)
	}
}

func short(recs []string) string {
	all := strconv.Itoa(len(recs)) + " records"
	for _, rec := range recs[:min(len(recs), 8)] {
		all += fmt.Sprintf(" %d:%.10q", len(rec), rec)
	}
	return all
}

// open opens a log that must be there, in this file and with these records.
func open(t testing.TB, d *disk.Disk, file string, recs ...string) *wal.Wal {
	t.Helper()
	w, list, e := wal.Open(d)
	if e != api.OK || w == nil || !slices.Equal(texts(list), recs) {
		t.Fatalf("P10.1: Open: %s, %d; want %s", short(texts(list)), e, short(recs))
	}
	wantLog(t, w, file, len(recs))
	return w
}

func refuseOpen(t testing.TB, d *disk.Disk, want api.Errno) {
	t.Helper()
	if w, list, e := wal.Open(d); e != want || w != nil || len(list) != 0 {
		t.Errorf("P10.1: Open: %v, %d records, %d; want %d", w, len(list), e, want)
	}
}

func add(t testing.TB, w *wal.Wal, recs ...string) {
	t.Helper()
	for _, rec := range recs {
		wantErrno(t, w.Append([]byte(rec)), api.OK)
	}
}

func wantErrno(t testing.TB, got, want api.Errno) {
	t.Helper()
	if got != want {
		t.Errorf("P10.2: %d, want %d", got, want)
	}
}

func wantWaiting(t testing.TB, d *disk.Disk, want int) {
	t.Helper()
	if got := d.Waiting(); got != want {
		t.Errorf("%d writes wait, want %d", got, want)
	}
}

// What follows reads the chapter plainly, for disks of all kinds.

var logName = regexp.MustCompile(`^log-([1-9][0-9]{0,8})$`)

// plainFrame is what the frame with which s begins holds, and what stands behind it.
func plainFrame(s string) (string, string, bool) {
	n, size := binary.Uvarint([]byte(s))
	if size <= 0 || uvarint(n) != s[:size] || n > api.MaxText || size+int(n)+4 > len(s) {
		return "", s, false
	}
	inner := s[size : size+int(n)]
	if whole := frame(inner); strings.HasPrefix(s, whole) {
		return inner, s[len(whole):], true
	}
	return "", s, false
}

// plainFile is a file's records, and what stands behind them, if it is whole.
func plainFile(s string) ([]string, string, bool) {
	head, rest, is := plainFrame(s)
	if !is {
		return nil, "", false
	}
	least, size := binary.Uvarint([]byte(head))
	if size <= 0 || uvarint(least) != head || least > math.MaxInt64 {
		return nil, "", false
	}
	var recs []string
	for {
		var rec string
		if rec, rest, is = plainFrame(rest); !is {
			return recs, rest, uint64(len(recs)) >= least
		}
		recs = append(recs, rec)
	}
}

// plainOpen is what opening makes of a disk's files: them, the log's file, its records and the greatest number; none of these three, if it is refused.
func plainOpen(fs files) (files, string, []string, int) {
	greatest, mine := 0, 0
	var recs []string
	rest := ""
	after := maps.Clone(fs)
	for name, s := range fs {
		m := logName.FindStringSubmatch(name)
		if m == nil {
			continue
		}
		delete(after, name)
		n, _ := strconv.Atoi(m[1])
		greatest = max(greatest, n)
		if r, left, whole := plainFile(s); whole && n > mine {
			mine, recs, rest = n, r, left
		}
	}
	old := "log-" + strconv.Itoa(mine)
	if mine > 0 {
		after[old] = fs[old]
	}
	if mine > 0 && rest == "" {
		return after, old, recs, greatest
	}
	anew := laid(recs...)
	if greatest == 999999999 || len(after) == 64 || after.size()+len(anew) > 1<<20 {
		return after, "", nil, 0
	}
	if mine > 0 {
		delete(after, old)
	}
	name := "log-" + strconv.Itoa(greatest+1)
	return after.with(name, anew), name, recs, greatest + 1
}

// wantPlainOpen holds Open against plainOpen, and the number that comes next too.
func wantPlainOpen(t testing.TB, fs files) {
	t.Helper()
	d := diskOf(t, fs)
	after, file, recs, greatest := plainOpen(fs)
	if file == "" {
		refuseOpen(t, d, api.ErrFull)
		wantFiles(t, d, after)
		return
	}
	w := open(t, d, file, recs...)
	wantFiles(t, d, after)
	wantWaiting(t, d, 0)
	if greatest < 999999999 && len(after) < 64 && after.size() < 1<<19 {
		delete(after, file)
		next := "log-" + strconv.Itoa(greatest+1)
		wantErrno(t, w.Reset(lists("n")), api.OK)
		wantLog(t, w, next, 1)
		wantFiles(t, d, after.with(next, laid("n")))
	}
}

func TestExamples(t *testing.T) {
	d := disk.New()
	w := open(t, d, "log-1")
	b, _ := d.Read("log-1")
	if len(b) != 6 || b[0] != 1 || b[1] != 0 {
		t.Errorf("P10.1: log-1 is % x", b)
	}
	wantFiles(t, d, files{"log-1": laid()})
	wantErrno(t, w.Append([]byte("a")), api.OK)
	wantErrno(t, w.Sync(), api.OK)
	wantErrno(t, w.Append([]byte("bc")), api.OK)
	d.Crash(0, 3)
	w = open(t, d, "log-2", "a")
	wantFiles(t, d, files{"log-2": laid("a")})
	wantErrno(t, w.Reset(lists("x", "y")), api.OK)
	wantLog(t, w, "log-3", 2)
	wantFiles(t, d, files{"log-3": laid("x", "y")})
}

func TestNil(t *testing.T) {
	refuseOpen(t, nil, api.ErrArg)
	var w *wal.Wal
	for _, rec := range [][]byte{nil, []byte("a"), make([]byte, api.MaxText+1)} {
		wantErrno(t, w.Append(rec), api.ErrArg)
		wantErrno(t, w.Reset([][]byte{rec}), api.ErrArg)
	}
	wantErrno(t, w.Reset(nil), api.ErrArg)
	wantErrno(t, w.Sync(), api.ErrArg)
	wantLog(t, w, "", 0)
}

// Each call of a log that has room, one by one, with the bytes that it leaves and the writes that wait behind it.
func TestStepByStep(t *testing.T) {
	d := disk.New()
	w := open(t, d, "log-1")
	wantWaiting(t, d, 0)
	add(t, w, "a")
	wantLog(t, w, "log-1", 1)
	wantFiles(t, d, files{"log-1": told(0, "a")})
	wantWaiting(t, d, 1)
	add(t, w, "", "bc")
	wantLog(t, w, "log-1", 3)
	wantFiles(t, d, files{"log-1": told(0, "a", "", "bc")})
	wantWaiting(t, d, 3)
	wantErrno(t, w.Sync(), api.OK)
	wantLog(t, w, "log-1", 3)
	wantWaiting(t, d, 0)
	wantErrno(t, w.Sync(), api.OK)
	add(t, w, "d")
	wantWaiting(t, d, 1)
	wantErrno(t, w.Reset(lists("x", "", "yz")), api.OK)
	wantLog(t, w, "log-2", 3)
	wantFiles(t, d, files{"log-2": laid("x", "", "yz")})
	wantWaiting(t, d, 0)
	add(t, w, "u")
	wantLog(t, w, "log-2", 4)
	wantFiles(t, d, files{"log-2": told(3, "x", "", "yz", "u")})
	wantErrno(t, w.Reset(nil), api.OK)
	wantLog(t, w, "log-3", 0)
	wantFiles(t, d, files{"log-3": laid()})
	wantErrno(t, w.Reset([][]byte{nil, {}}), api.OK)
	wantLog(t, w, "log-4", 2)
	wantFiles(t, d, files{"log-4": laid("", "")})
	wantErrno(t, w.Reset([][]byte{}), api.OK)
	open(t, d, "log-5")
}

// Opening a log that is in order writes, syncs and removes nothing.
func TestOpenAgain(t *testing.T) {
	d := disk.New()
	w := open(t, d, "log-1")
	add(t, w, "a", "b")
	wantErrno(t, w.Sync(), api.OK)
	add(t, w, "c")
	for range 3 {
		open(t, d, "log-1", "a", "b", "c")
		wantFiles(t, d, files{"log-1": told(0, "a", "b", "c")})
		wantWaiting(t, d, 1)
	}
	w = open(t, d, "log-1", "a", "b", "c")
	add(t, w, "d")
	wantLog(t, w, "log-1", 4)
	wantFiles(t, d, files{"log-1": told(0, "a", "b", "c", "d")})
	d.Crash(0, 0)
	w = open(t, d, "log-1", "a", "b")
	wantErrno(t, w.Reset(lists("e")), api.OK)
	open(t, d, "log-2", "e")
}

// Only the log's own writes are synced: those to other files wait as before.
func TestOthersWait(t *testing.T) {
	d := disk.New()
	write(t, d, "other", "one")
	w := open(t, d, "log-1")
	wantWaiting(t, d, 1)
	add(t, w, "a")
	write(t, d, "other", "two")
	wantErrno(t, w.Sync(), api.OK)
	wantWaiting(t, d, 2)
	add(t, w, "b")
	wantErrno(t, w.Reset(lists("c")), api.OK)
	wantWaiting(t, d, 2)
	d.Crash(1, 2)
	wantFiles(t, d, files{"other": "onetw", "log-2": laid("c")})
}

func TestRecordLengths(t *testing.T) {
	for _, n := range []int{0, 1, 2, 127, 128, 129, 16383, 16384, api.MaxText - 1, api.MaxText} {
		rec := strings.Repeat("\x80", n)
		d := disk.New()
		w := open(t, d, "log-1")
		add(t, w, rec, "b", rec)
		wantErrno(t, w.Sync(), api.OK)
		wantFiles(t, d, files{"log-1": told(0, rec, "b", rec)})
		w = open(t, d, "log-1", rec, "b", rec)
		wantErrno(t, w.Reset(lists("a", rec)), api.OK)
		wantFiles(t, d, files{"log-2": laid("a", rec)})
		open(t, d, "log-2", "a", rec)
	}
}

func TestLongRecords(t *testing.T) {
	for _, n := range []int{api.MaxText + 1, api.MaxText + 2, 2 * api.MaxText, api.MaxDisk, api.MaxDisk + 1} {
		d := disk.New()
		w := open(t, d, "log-1")
		add(t, w, "a")
		long := strings.Repeat("r", n)
		wantErrno(t, w.Append([]byte(long)), api.ErrArg)
		for _, recs := range [][]string{{long}, {"x", long}, {long, "x"}, {"x", long, "y"}, {long, long}} {
			wantErrno(t, w.Reset(lists(recs...)), api.ErrArg)
		}
		wantLog(t, w, "log-1", 1)
		wantWaiting(t, d, 1)
		wantFiles(t, d, files{"log-1": told(0, "a")})
		add(t, w, "b")
		wantErrno(t, w.Reset(lists("c")), api.OK)
		open(t, d, "log-2", "c")
	}
}

// ErrArg is told ahead of ErrFull.
func TestLongRecordOnAFullDisk(t *testing.T) {
	long := strings.Repeat("r", api.MaxText+1)
	d := diskOf(t, files{last: laid("a"), "filler": strings.Repeat("f", api.MaxDisk-len(laid("a")))})
	w := open(t, d, last, "a")
	before := filesOf(d)
	wantErrno(t, w.Append([]byte(long)), api.ErrArg)
	wantErrno(t, w.Append(nil), api.ErrFull)
	wantErrno(t, w.Reset(lists("x", long)), api.ErrArg)
	wantErrno(t, w.Reset(nil), api.ErrFull)
	wantFiles(t, d, before)
	wantLog(t, w, last, 1)
}

// The number of records is a Num of more bytes than one, and the numbers of files are of more digits.
func TestManyRecordsAndFiles(t *testing.T) {
	d := disk.New()
	w := open(t, d, "log-1")
	for i, n := range []int{127, 128, 129, 300, 16383, 16384, 16385} {
		recs := slices.Repeat([]string{"a", ""}, n)[:n]
		wantErrno(t, w.Reset(lists(recs...)), api.OK)
		file := "log-" + strconv.Itoa(i+2)
		wantFiles(t, d, files{file: laid(recs...)})
		open(t, d, file, recs...)
	}
	for n := 9; n < 1100; n++ {
		wantErrno(t, w.Reset(lists("x")), api.OK)
		wantLog(t, w, "log-"+strconv.Itoa(n), 1)
		if d.Names()[0] != w.File() || len(d.Names()) != 1 {
			t.Fatalf("P10.2: %v", d.Names())
		}
	}
	open(t, d, "log-1099", "x")
}

// As many records as a disk can hold.
func TestMostRecords(t *testing.T) {
	n := (api.MaxDisk - len(laid())) / len(frame(""))
	d := diskOf(t, files{"log-1": laid() + strings.Repeat(frame(""), n)})
	open(t, d, "log-1", make([]string, n)...)
	half := strings.Repeat(frame(""), n/2-1)
	d = diskOf(t, files{"log-1": laid() + half + "\x80"})
	open(t, d, "log-2", make([]string, n/2-1)...)
	wantFiles(t, d, files{"log-2": frame(uvarint(uint64(n/2-1))) + half})
}

// Records of more bytes than any disk takes are refused before they are all laid.
func TestResetOfTooMuch(t *testing.T) {
	d := disk.New()
	w := open(t, d, "log-1")
	add(t, w, "a")
	rec := make([]byte, api.MaxText)
	wantErrno(t, w.Reset(slices.Repeat([][]byte{rec}, 30000)), api.ErrFull)
	wantErrno(t, w.Reset(make([][]byte, 300000)), api.ErrFull)
	wantFiles(t, d, files{"log-1": told(0, "a")})
	open(t, d, "log-1", "a")
}

// nearNames are names of files, but none of a log.
var nearNames = []string{
	"log-0", "log-", "log", "log-01", "log-007", "log-00", "log-000000001", "log-0000000001", "log-0999999999", "log-1000000000", "log-1234567890", "log-9999999999",
	"log-2147483648", "log-4294967297", "log-99999999999", "log-999999999999", "log--1", "log--", "log-.1", "log-1.", "log-1.0", "log-1-", "log-1-2", "log-1a", "log-a1", "log-a", "log-x",
	"log-0x1", "log-0b1", "log-1e3", "log-log-1", "log1", "log.1", "1", "999", "og-1", "-1", "xlog-1", "alog-5", "-log-1", "lo-1", "logs-1", "l", "a", "log-1.tmp", "log-inf", "log-1log-2",
}

func TestNearNames(t *testing.T) {
	for _, name := range nearNames {
		if logName.MatchString(name) {
			t.Fatalf("%q is a log's name", name)
		}
		near := files{name: laid("near")}
		d := diskOf(t, near)
		w := open(t, d, "log-1")
		wantFiles(t, d, near.with("log-1", laid()))
		add(t, w, "a")
		open(t, d, "log-1", "a")
		wantErrno(t, w.Reset(lists("b")), api.OK)
		wantFiles(t, d, near.with("log-2", laid("b")))
		write(t, d, "log-2", "torn")
		open(t, d, "log-3", "b")
		wantFiles(t, d, near.with("log-3", laid("b")))
	}
	all := files{}
	for _, name := range nearNames {
		all[name] = laid("near") + "torn"
	}
	wantPlainOpen(t, all)
	wantPlainOpen(t, all.with("log-1", laid("mine")))
	wantPlainOpen(t, all.with("log-7", laid("mine")+"torn").with("log-8", ""))
}

// Names of logs at the ends of their digits.
func TestRightNames(t *testing.T) {
	for _, n := range []int{1, 2, 9, 10, 11, 99, 100, 101, 999, 1000, 123456789, 987654321, 99999999, 100000000, 999999998} {
		name, next := "log-"+strconv.Itoa(n), "log-"+strconv.Itoa(n+1)
		d := diskOf(t, files{name: laid("a")})
		w := open(t, d, name, "a")
		wantErrno(t, w.Reset(lists("b")), api.OK)
		wantLog(t, w, next, 1)
		wantFiles(t, d, files{next: laid("b")})
		d = diskOf(t, files{name: ""})
		open(t, d, next)
		wantFiles(t, d, files{next: laid()})
	}
}

func TestWhichFileIsTaken(t *testing.T) {
	a, b, none := laid("a"), told(0, "b", "c"), told(2, "d")
	for _, x := range []struct {
		fs   files
		file string
		recs []string
	}{
		{files{"log-1": a, "log-2": b}, "log-2", []string{"b", "c"}},
		{files{"log-2": a, "log-1": b}, "log-2", []string{"a"}},
		{files{"log-9": a, "log-10": b}, "log-10", []string{"b", "c"}},
		{files{"log-10": a, "log-9": b, "log-8": b}, "log-10", []string{"a"}},
		{files{"log-99": a, "log-100": b, "log-1000": none}, "log-100", []string{"b", "c"}},
		{files{"log-1": a, "log-2": none}, "log-1", []string{"a"}},
		{files{"log-1": a, "log-2": ""}, "log-1", []string{"a"}},
		{files{"log-1": none, "log-2": a}, "log-2", []string{"a"}},
		{files{"log-1": none, "log-2": a, "log-3": none, "log-4": b, "log-5": none, "log-6": ""}, "log-4", []string{"b", "c"}},
		{files{"log-1": a + "t", "log-2": b}, "log-2", []string{"b", "c"}},
		{files{"log-1": b, "log-2": a + "t"}, "log-3", []string{"a"}},
		{files{"log-1": b, "log-2": a + "t", "log-7": none}, "log-8", []string{"a"}},
		{files{"log-1": none, "log-2": none, "log-3": ""}, "log-4", nil},
		{files{"log-5": "", "log-12": none}, "log-13", nil},
		{files{"log-5": "junk"}, "log-6", nil},
		{files{"log-1": a, last: b}, last, []string{"b", "c"}},
		{files{"log-1": a, last: none}, "log-1", []string{"a"}},
	} {
		d := diskOf(t, x.fs)
		open(t, d, x.file, x.recs...)
		if !slices.Equal(d.Names(), []string{x.file}) {
			t.Errorf("P10.1: of%v %v are left", x.fs, d.Names())
		}
		wantPlainOpen(t, x.fs)
		wantPlainOpen(t, x.fs.with("other", "bytes").with("log-0", a))
	}
}

// The next number is one above the greatest that was there at the opening, though its file is gone.
func TestNumberOfAFileThatIsGone(t *testing.T) {
	d := diskOf(t, files{"log-3": laid("a"), "log-9": told(1)})
	w := open(t, d, "log-3", "a")
	add(t, w, "b")
	wantFiles(t, d, files{"log-3": told(1, "a", "b")})
	wantErrno(t, w.Sync(), api.OK)
	wantWaiting(t, d, 0)
	wantErrno(t, w.Reset(lists("b")), api.OK)
	wantLog(t, w, "log-10", 1)
	wantErrno(t, w.Reset(nil), api.OK)
	wantLog(t, w, "log-11", 0)
	d = diskOf(t, files{"log-3": laid("a"), "log-9": told(1)})
	open(t, d, "log-3", "a")
	w = open(t, d, "log-3", "a")
	wantErrno(t, w.Reset(lists("b")), api.OK)
	wantLog(t, w, "log-4", 1)
}

// wrongHeads are first frames that aren't one Num alone, or no frames.
var wrongHeads = []string{
	"\x00", "\x01", "\x80", "\x01\x00", "junk", frame(""), frame("\x80"), frame("\x80\x00"), frame("\x00\x00"), frame("\x01\x02"), frame("\x00\x80"), frame("a long text"),
	frame(uvarint(1 << 63)), frame(uvarint(math.MaxUint64)), frame(strings.Repeat("\x80", 10) + "\x01"), frame("\x81\x80\x00"), frame(strings.Repeat("\x80", api.MaxText)),
	spoiltSum(frame("\x00"), 0), spoiltSum(frame("\x00"), 1), spoiltSum(frame("\x00"), 2), spoiltSum(frame("\x00"), 5), frame("\x00")[:5], "\x81\x00\x00" + frame("\x00")[2:],
}

func TestWrongHeads(t *testing.T) {
	for _, head := range wrongHeads {
		for _, behind := range []string{"", frame("a"), frame("\x00"), frames("a", "b", "c")} {
			spoilt := head + behind
			if _, _, whole := plainFile(spoilt); whole {
				t.Fatalf("% .20x is whole", spoilt)
			}
			d := diskOf(t, files{"log-4": spoilt})
			open(t, d, "log-5")
			wantFiles(t, d, files{"log-5": laid()})
			d = diskOf(t, files{"log-3": laid("o", "p"), "log-4": spoilt})
			open(t, d, "log-3", "o", "p")
			wantFiles(t, d, files{"log-3": laid("o", "p")})
		}
	}
}

// A first frame may tell fewer frames than there are, but not more.
func TestToldFrames(t *testing.T) {
	recs := []string{"a", "", "ccc", "\x00", "\x01"}
	for n := range len(recs) + 1 {
		for _, least := range []uint64{0, 1, 2, 3, 4, 5, 6, 7, 127, 128, 1 << 31, 1 << 32, 1<<32 + 1, math.MaxInt64} {
			for _, tail := range []string{"", "\x00", "t", frame("x")[:5]} {
				d := diskOf(t, files{"log-1": laid("old"), "log-2": told(least, recs[:n]...) + tail})
				switch {
				case least > uint64(n):
					open(t, d, "log-1", "old")
				case tail == "":
					open(t, d, "log-2", recs[:n]...)
					wantFiles(t, d, files{"log-2": told(least, recs[:n]...)})
				default:
					open(t, d, "log-3", recs[:n]...)
					wantFiles(t, d, files{"log-3": laid(recs[:n]...)})
				}
			}
		}
	}
}

// Whatever byte is off, and wherever the file ends, the records end ahead of it.
func TestSpoiltBytes(t *testing.T) {
	recs := []string{"a", "", strings.Repeat("c", 130), "dd"}
	for _, least := range []uint64{0, 2, 4} {
		s := told(least, recs...)
		for at := range s {
			for _, spoilt := range []string{s[:at], spoiltSum(s, at), s[:at] + "\x80" + s[at:]} {
				wantPlainOpen(t, files{"log-8": spoilt})
				wantPlainOpen(t, files{"log-5": laid("o"), "log-8": spoilt})
			}
		}
	}
}

func TestWrongSumOfARecord(t *testing.T) {
	recs := []string{"a", "bb", "ccc"}
	for i := range recs {
		s := told(1, recs[:i]...) + spoiltSum(frame(recs[i]), len(recs[i])) + frames(recs[i+1:]...)
		d := diskOf(t, files{"log-1": s})
		open(t, d, "log-2", recs[:i]...)
		wantFiles(t, d, files{"log-2": laid(recs[:i]...)})
	}
}

// Bytes behind the last record are gone when the log is opened, so that what is appended then can be read.
func TestBytesBehind(t *testing.T) {
	for _, tail := range []string{"\x00", "\x01", "\x80", "t", "a long tail", frame("xyz")[:1], frame("xyz")[:7], spoiltSum(frame("xyz"), 3), strings.Repeat("\x80", 20), "\x81\x80\x04" + strings.Repeat("z", 70000)} {
		for _, recs := range [][]string{nil, {"a"}, {"", ""}, {"a", "b", "c"}} {
			d := diskOf(t, files{"log-6": laid(recs...) + tail, "log-2": laid("old")})
			w := open(t, d, "log-7", recs...)
			wantFiles(t, d, files{"log-7": laid(recs...)})
			wantWaiting(t, d, 0)
			add(t, w, "more")
			wantErrno(t, w.Sync(), api.OK)
			open(t, d, "log-7", append(slices.Clone(recs), "more")...)
		}
	}
}

func TestNineNines(t *testing.T) {
	d := diskOf(t, files{last: laid("a")})
	w := open(t, d, last, "a")
	add(t, w, "b")
	wantErrno(t, w.Sync(), api.OK)
	for _, recs := range [][]string{nil, {"c"}} {
		wantErrno(t, w.Reset(lists(recs...)), api.ErrFull)
		wantFiles(t, d, files{last: told(1, "a", "b")})
	}
	open(t, d, last, "a", "b")

	d = diskOf(t, files{"log-999999998": laid("a")})
	w = open(t, d, "log-999999998", "a")
	wantErrno(t, w.Reset(lists("b")), api.OK)
	wantLog(t, w, last, 1)
	wantErrno(t, w.Reset(lists("c")), api.ErrFull)
	open(t, d, last, "b")

	torn := files{last: laid("a") + "t"}
	d = diskOf(t, torn)
	refuseOpen(t, d, api.ErrFull)
	refuseOpen(t, d, api.ErrFull)
	wantFiles(t, d, torn)
}

// A file of the greatest number that isn't whole is removed; its number stays in the way till the next opening.
func TestNineNinesNotWhole(t *testing.T) {
	d := diskOf(t, files{last: told(1)})
	refuseOpen(t, d, api.ErrFull)
	wantFiles(t, d, files{})
	open(t, d, "log-1")

	d = diskOf(t, files{last: "", "log-5": laid("a")})
	w := open(t, d, "log-5", "a")
	wantErrno(t, w.Reset(lists("b")), api.ErrFull)
	w = open(t, d, "log-5", "a")
	wantErrno(t, w.Reset(lists("b")), api.OK)
	wantLog(t, w, "log-6", 1)

	d = diskOf(t, files{last: "", "log-5": laid("a") + "t"})
	refuseOpen(t, d, api.ErrFull)
	wantFiles(t, d, files{"log-5": laid("a") + "t"})
	open(t, d, "log-6", "a")
}

// fill adds n files of no log to some files.
func fill(fs files, n int) files {
	more := maps.Clone(fs)
	for i := range n {
		more["file-"+strconv.Itoa(i)] = "f"
	}
	return more
}

// logsOfAllKinds are what a log can be opened on.
func logsOfAllKinds() []files {
	torn, none := laid("a", "bb")+"t", told(3, "a", "bb")
	return []files{
		{}, {"log-1": laid("a", "bb")}, {"log-1": torn}, {"log-1": none}, {"log-1": none, "log-2": none}, {"log-1": torn, "log-2": none},
		{"log-1": laid("o"), "log-2": torn}, {"log-1": laid("o"), "log-2": torn, "log-3": none}, {"log-1": laid("a"), "log-2": none}, {last: torn}, {last: none, "log-1": torn},
	}
}

func TestOpenOnADiskFullOfFiles(t *testing.T) {
	for _, fs := range logsOfAllKinds() {
		for left := range 4 {
			if n := api.MaxFiles - len(fs) - left; n >= 0 {
				wantPlainOpen(t, fill(fs, n))
			}
		}
	}
	d := diskOf(t, fill(files{"log-1": laid("a") + "t"}, api.MaxFiles-1))
	refuseOpen(t, d, api.ErrFull)
	d.Remove("file-0")
	open(t, d, "log-2", "a")
	d = diskOf(t, fill(files{}, api.MaxFiles))
	refuseOpen(t, d, api.ErrFull)
	d.Remove("file-0")
	open(t, d, "log-1")
}

// What is removed makes room ahead of what is laid.
func TestOpenOnADiskFullOfLogs(t *testing.T) {
	fs := files{}
	for i := range api.MaxFiles {
		fs["log-"+strconv.Itoa(i+1)] = told(1) + strings.Repeat("r", api.MaxDisk/api.MaxFiles-len(told(1)))
	}
	d := diskOf(t, fs)
	open(t, d, "log-65")
	wantFiles(t, d, files{"log-65": laid()})
	torn := laid("a") + "t"
	fs["log-30"] = torn
	d = diskOf(t, fs)
	open(t, d, "log-65", "a")
	wantFiles(t, d, files{"log-65": laid("a")})
	for name := range fs {
		fs[name] = laid(name)
	}
	d = diskOf(t, fs)
	open(t, d, "log-64", "log-64")
	wantFiles(t, d, files{"log-64": laid("log-64")})
}

func filler(fs files, room int) files {
	return fs.with("filler", strings.Repeat("f", api.MaxDisk-fs.size()-room))
}

func TestOpenOnADiskFullOfBytes(t *testing.T) {
	for _, fs := range logsOfAllKinds() {
		for room := range len(laid("a", "bb")) + 2 {
			full := filler(fs, room)
			wantPlainOpen(t, full)
			d := diskOf(t, full)
			if _, _, e := wal.Open(d); e == api.OK {
				continue
			}
			// A log that found no room is found again when there is some.
			d.Remove("filler")
			left := filesOf(d)
			_, file, recs, _ := plainOpen(left)
			if file != "" {
				open(t, d, file, recs...)
			}
		}
	}
}

func TestAppendOnAFullDisk(t *testing.T) {
	for _, rec := range []string{"", "a", "bcd", strings.Repeat("e", 200)} {
		need := len(frame(rec))
		for room := range need + 2 {
			full := filler(files{"log-1": laid("o")}, room)
			d := diskOf(t, full)
			w := open(t, d, "log-1", "o")
			if room >= need {
				wantErrno(t, w.Append([]byte(rec)), api.OK)
				wantLog(t, w, "log-1", 2)
				continue
			}
			for range 2 {
				wantErrno(t, w.Append([]byte(rec)), api.ErrFull)
				wantLog(t, w, "log-1", 1)
				wantFiles(t, d, full)
				wantWaiting(t, d, 0)
			}
			wantErrno(t, w.Sync(), api.OK)
			d.Remove("filler")
			add(t, w, rec, "more")
			wantLog(t, w, "log-1", 3)
			open(t, d, "log-1", "o", rec, "more")
		}
	}
}

// An Append needs no file more.
func TestAppendOnADiskFullOfFiles(t *testing.T) {
	d := diskOf(t, fill(files{"log-1": laid()}, api.MaxFiles-1))
	w := open(t, d, "log-1")
	add(t, w, "a")
	wantErrno(t, w.Sync(), api.OK)
	open(t, d, "log-1", "a")
}

// A new file must find room beside the old one; where it finds none, the log is still the old one.
func TestResetOnADiskFullOfBytes(t *testing.T) {
	for _, recs := range [][]string{nil, {""}, {"a"}, {"a", "", "ccc"}} {
		need := len(laid(recs...))
		for room := range need + 2 {
			full := filler(files{"log-1": laid("o", "p")}, room)
			d := diskOf(t, full)
			w := open(t, d, "log-1", "o", "p")
			if room >= need {
				wantErrno(t, w.Reset(lists(recs...)), api.OK)
				wantLog(t, w, "log-2", len(recs))
				wantFiles(t, d, files{"log-2": laid(recs...), "filler": full["filler"]})
				continue
			}
			for range 2 {
				wantErrno(t, w.Reset(lists(recs...)), api.ErrFull)
				wantFiles(t, d, full)
				wantWaiting(t, d, 0)
			}
			d.Crash(room, room)
			open(t, d, "log-1", "o", "p")
		}
	}
}

func TestResetOnADiskFullOfFiles(t *testing.T) {
	full := fill(files{"log-1": laid("o")}, api.MaxFiles-1)
	d := diskOf(t, full)
	w := open(t, d, "log-1", "o")
	wantErrno(t, w.Reset(lists("a")), api.ErrFull)
	wantErrno(t, w.Reset(nil), api.ErrFull)
	wantFiles(t, d, full)
	open(t, d, "log-1", "o")
	d = diskOf(t, fill(files{"log-1": laid("o")}, api.MaxFiles-2))
	w = open(t, d, "log-1", "o")
	wantErrno(t, w.Reset(lists("a")), api.OK)
	wantErrno(t, w.Reset(lists("b")), api.OK)
	open(t, d, "log-3", "b")
}

// A Reset that was refused is in no way of what comes behind it.
func TestResetBehindARefusedOne(t *testing.T) {
	d := diskOf(t, filler(files{"log-1": laid("o")}, len(laid("a", "b"))))
	w := open(t, d, "log-1", "o")
	wantErrno(t, w.Reset(lists("a", "b", "c")), api.ErrFull)
	wantLog(t, w, "log-1", 1)
	wantErrno(t, w.Append([]byte("p")), api.OK)
	wantErrno(t, w.Sync(), api.OK)
	wantErrno(t, w.Reset(lists("x")), api.OK)
	wantLog(t, w, "log-2", 1)
	open(t, d, "log-2", "x")
}

// What a disk refuses is ErrFull, and a file that is gone needn't be removed.
func TestFileIsGone(t *testing.T) {
	d := disk.New()
	w := open(t, d, "log-1")
	d.Remove("log-1")
	wantErrno(t, w.Sync(), api.ErrFull)
	wantFiles(t, d, files{})
	wantErrno(t, w.Reset(lists("a")), api.OK)
	wantFiles(t, d, files{"log-2": laid("a")})
}

// script is a log on a disk, and what it had by what was done to it.
type script struct {
	t      testing.TB
	d      *disk.Disk
	w      *wal.Wal
	others files
	number int
	laid   int // how many records the log had when it was laid
	synced int
	had    []string
}

func start(t testing.TB, others files) *script {
	t.Helper()
	d := diskOf(t, others)
	return &script{t: t, d: d, w: open(t, d, "log-1"), others: others, number: 1}
}

func (s *script) file() string { return "log-" + strconv.Itoa(s.number) }

func (s *script) bytes() string { return told(uint64(s.laid), s.had...) }

func (s *script) room() int { return api.MaxDisk - s.others.size() - len(s.bytes()) }

// look holds all that can be seen of the log and its disk against what was done.
func (s *script) look() {
	s.t.Helper()
	wantLog(s.t, s.w, s.file(), len(s.had))
	wantWaiting(s.t, s.d, len(s.had)-s.synced)
	wantFiles(s.t, s.d, s.others.with(s.file(), s.bytes()))
}

func (s *script) append(rec string) {
	s.t.Helper()
	if len(frame(rec)) > s.room() {
		wantErrno(s.t, s.w.Append([]byte(rec)), api.ErrFull)
		return
	}
	wantErrno(s.t, s.w.Append([]byte(rec)), api.OK)
	s.had = append(s.had, rec)
}

func (s *script) sync() {
	s.t.Helper()
	wantErrno(s.t, s.w.Sync(), api.OK)
	s.synced = len(s.had)
}

func (s *script) reset(recs ...string) {
	s.t.Helper()
	if len(laid(recs...)) > s.room() {
		wantErrno(s.t, s.w.Reset(lists(recs...)), api.ErrFull)
		return
	}
	wantErrno(s.t, s.w.Reset(lists(recs...)), api.OK)
	s.number++
	s.had, s.laid, s.synced = slices.Clone(recs), len(recs), len(recs)
}

// crash crashes the disk, opens the log again and holds it against what such a crash leaves of the writes that waited.
func (s *script) crash(keep, torn int) {
	s.t.Helper()
	s.d.Crash(keep, torn)
	waited := s.had[s.synced:]
	keep = min(max(keep, 0), len(waited))
	left := slices.Clone(s.had[:s.synced+keep])
	piece := ""
	if keep < len(waited) {
		whole := frame(waited[keep])
		piece = whole[:min(max(torn, 0), len(whole))]
		if piece == whole {
			left, piece = append(left, waited[keep]), ""
		}
	}
	after := s.others.with(s.file(), told(uint64(s.laid), left...)+piece)
	wantFiles(s.t, s.d, after)
	if piece != "" && len(laid(left...)) > api.MaxDisk-after.size() {
		refuseOpen(s.t, s.d, api.ErrFull)
		s.d.Remove("filler")
		delete(s.others, "filler")
	}
	if piece != "" {
		s.number++
		s.laid = len(left)
	}
	s.had, s.synced = left, len(left)
	s.w = open(s.t, s.d, s.file(), left...)
	s.look()
}

// steps are a script whose crashes are tried at each place.
func steps() []func(*script) {
	return []func(*script){
		func(s *script) {},
		func(s *script) { s.append("a") },
		func(s *script) { s.append("") },
		func(s *script) { s.sync() },
		func(s *script) { s.append(strings.Repeat("b", 130)) },
		func(s *script) { s.append("\x00") },
		func(s *script) { s.append("") },
		func(s *script) { s.reset("x", "", "z") },
		func(s *script) { s.sync() },
		func(s *script) { s.append("cc") },
		func(s *script) { s.append("d") },
		func(s *script) { s.sync() },
		func(s *script) { s.append("e") },
		func(s *script) { s.reset() },
		func(s *script) { s.append("\x01\x02") },
		func(s *script) { s.append(string(frame("inner"))) },
		func(s *script) { s.reset("y") },
	}
}

// crashes goes through the crashes that a disk with so many writes that wait can tell apart, each of at most size bytes.
func crashes(waits, size int) func(func(int, int) bool) {
	return func(yield func(int, int) bool) {
		for keep := -1; keep <= waits+1; keep++ {
			for torn := -1; torn <= size; torn++ {
				if !yield(keep, torn) {
					return
				}
			}
		}
	}
}

func played(t testing.TB, n int) *script {
	t.Helper()
	s := start(t, files{"other": "bytes"})
	for _, step := range steps()[:n] {
		step(s)
		s.look()
	}
	return s
}

func longest(recs []string) int {
	size := 0
	for _, rec := range recs {
		size = max(size, len(frame(rec)))
	}
	return size
}

func TestCrashAtEachPlace(t *testing.T) {
	for n := range len(steps()) + 1 {
		plain := played(t, n)
		waited := plain.had[plain.synced:]
		for keep, torn := range crashes(len(waited), longest(waited)+1) {
			s := played(t, n)
			s.crash(keep, torn)
			s.append("behind")
			s.crash(0, 0)
			s.append("behind")
			s.sync()
			s.crash(0, 0)
		}
	}
	for _, keep := range []int{math.MinInt, -5, 0, 1, math.MaxInt} {
		for _, torn := range []int{math.MinInt, -5, 0, 1, math.MaxInt} {
			s := played(t, 6)
			s.crash(keep, torn)
		}
	}
}

// A log that a crash tore is opened, appended to, torn by another crash, and opened again.
func TestCrashBehindCrash(t *testing.T) {
	for first, a := range crashes(2, 7) {
		for second, b := range crashes(2, 7) {
			s := start(t, files{})
			s.append("a")
			s.append("b")
			s.crash(first, a)
			s.append("c")
			s.append("")
			s.crash(second, b)
			s.crash(first, a)
			s.append("d")
			s.reset("x", "y")
			s.append("e")
			s.crash(first, b)
			s.append("f")
			s.crash(second, a)
		}
	}
}

// A crash takes nothing from a log that was just opened, however it had to be laid.
func TestCrashBehindOpen(t *testing.T) {
	for _, fs := range logsOfAllKinds() {
		for keep, torn := range crashes(2, 8) {
			d := diskOf(t, fs)
			_, file, recs, _ := plainOpen(fs)
			if file == "" {
				continue
			}
			open(t, d, file, recs...)
			before := filesOf(d)
			d.Crash(keep, torn)
			wantFiles(t, d, before)
			open(t, d, file, recs...)
			d.Crash(keep, torn)
			open(t, d, file, recs...)
		}
	}
}

// Behind a Reset that was refused, a crash leaves the old log as it would have without it.
func TestCrashBehindARefusedReset(t *testing.T) {
	recs := []string{"a", "", "ccc"}
	for room := range len(laid(recs...)) {
		for keep, torn := range crashes(4, 9) {
			fs := files{"log-1": laid("o")}
			d := diskOf(t, fs)
			w := open(t, d, "log-1", "o")
			add(t, w, "p")
			write(t, d, "filler", filler(filesOf(d), room)["filler"])
			d.Sync("filler")
			wantErrno(t, w.Reset(lists(recs...)), api.ErrFull)
			d.Crash(keep, torn)
			d.Remove("filler")
			switch {
			case keep > 0 || torn >= len(frame("p")):
				open(t, d, "log-1", "o", "p")
			case torn > 0:
				open(t, d, "log-2", "o")
			default:
				open(t, d, "log-1", "o")
			}
		}
	}
}

func randomRecord(r *rand.Rand, most int) string {
	b := make([]byte, r.Intn(most+1))
	for i := range b {
		b[i] = "\x00\x01\x02\x80ab"[r.Intn(6)]
	}
	return string(b)
}

func randomRecords(r *rand.Rand, n, most int) []string {
	recs := make([]string, r.Intn(n+1))
	for i := range recs {
		recs[i] = randomRecord(r, most)
	}
	return recs
}

// step does one thing by chance.
func (s *script) step(r *rand.Rand, most int) {
	switch r.Intn(10) {
	case 0, 1:
		s.sync()
	case 2:
		s.reset(randomRecords(r, 5, most)...)
	case 3, 4:
		s.crash(r.Intn(6)-1, r.Intn(most+8)-1)
	default:
		s.append(randomRecord(r, most))
	}
}

func TestByChance(t *testing.T) {
	for seed := range int64(300) {
		r := rand.New(rand.NewSource(seed))
		s := start(t, files{"other": "bytes"})
		for range 60 {
			s.step(r, []int{3, 12, 300}[seed%3])
			s.look()
		}
	}
}

// Disks that have room for little beside the log.
func TestByChanceWhereRoomIsScarce(t *testing.T) {
	for seed := range int64(40) {
		r := rand.New(rand.NewSource(seed))
		s := start(t, files{"filler": strings.Repeat("f", api.MaxDisk-r.Intn(150)-50)})
		for range 40 {
			s.step(r, 12)
			s.look()
		}
	}
}

// spoiltFile is a log's file with which something may be wrong.
func spoiltFile(r *rand.Rand) string {
	recs := randomRecords(r, 4, 3)
	s := laid(recs...)
	switch r.Intn(8) {
	case 0:
		return s[:r.Intn(len(s))]
	case 1:
		return spoiltSum(s, r.Intn(len(s)))
	case 2:
		return s + randomRecord(r, 6)
	case 3:
		return told(uint64(r.Intn(8)), recs...)
	case 4:
		return told(uint64(r.Intn(3)), recs...) + randomRecord(r, 3)
	case 5:
		return wrongHeads[r.Intn(len(wrongHeads))] + frames(recs...)
	}
	return s
}

func TestOpenByChance(t *testing.T) {
	ends := []int{1, 2, 8, 9, 10, 98, 99, 100, 101, 999999997, 999999998, 999999999}
	for seed := range int64(5000) {
		r := rand.New(rand.NewSource(seed))
		fs := files{}
		for range r.Intn(6) {
			number := r.Intn(30) + 1
			if r.Intn(8) == 0 {
				number = ends[r.Intn(len(ends))]
			}
			fs["log-"+strconv.Itoa(number)] = spoiltFile(r)
		}
		for range r.Intn(3) {
			fs[nearNames[r.Intn(len(nearNames))]] = spoiltFile(r)
		}
		wantPlainOpen(t, fs)
		if room := r.Intn(60); seed%20 == 0 {
			wantPlainOpen(t, filler(fs, room))
		}
	}
}

// spoil writes over a list, its spare room too.
func spoil(b []byte) {
	b = b[:cap(b)]
	for i := range b {
		b[i] = '#'
	}
}

// What is handed in is neither changed nor kept, its spare room neither.
func TestHandedInIsNotKept(t *testing.T) {
	d := disk.New()
	w := open(t, d, "log-1")
	room := []byte("abcdefghijklmnopqrstuvwxyz")
	add(t, w, "first")
	wantErrno(t, w.Append(room[:3]), api.OK)
	add(t, w, "more")
	if string(room) != "abcdefghijklmnopqrstuvwxyz" {
		t.Errorf("rule 5: what was handed in is %q now", room)
	}
	spoil(room[:3])
	open(t, d, "log-1", "first", "abc", "more")

	room = []byte("abcdefghijklmnopqrstuvwxyz")
	recs := [][]byte{room[0:2], room[5:9], room[1:3], []byte("spare")}
	wantErrno(t, w.Reset(recs[:3]), api.OK)
	add(t, w, "more")
	if string(room) != "abcdefghijklmnopqrstuvwxyz" || !slices.Equal(texts(recs), []string{"ab", "fghi", "bc", "spare"}) {
		t.Errorf("rule 5: what was handed in is %q, %q now", room, recs)
	}
	spoil(room)
	recs[0], recs[1] = nil, []byte("other")
	wantLog(t, w, "log-2", 4)
	open(t, d, "log-2", "ab", "fghi", "bc", "more")
}

// An answer is new memory: whoever writes into it changes no log and no other answer.
func TestAnswersAreNew(t *testing.T) {
	for _, tail := range []string{"", "t"} {
		d := diskOf(t, files{"log-1": laid("ab", "", "cd", "ef") + tail})
		w, first, _ := wal.Open(d)
		_, second, _ := wal.Open(d)
		for i := range first {
			spoil(first[i])
			first[i] = append(first[i], "behind it"...)
			if i+1 < len(first) && string(first[i+1]) != []string{"", "cd", "ef"}[i] {
				t.Errorf("rule 5: a record was changed by way of the one ahead: %q", first[i+1])
			}
		}
		if !slices.Equal(texts(second), []string{"ab", "", "cd", "ef"}) {
			t.Errorf("rule 5: an answer was changed by way of another one: %q", second)
		}
		add(t, w, "gh")
		open(t, d, w.File(), "ab", "", "cd", "ef", "gh")
		wantErrno(t, w.Reset(second), api.OK)
		spoil(second[0])
		second[2] = nil
		open(t, d, w.File(), "ab", "", "cd", "ef")
	}
}

func TestLogsAreApart(t *testing.T) {
	d, e := disk.New(), disk.New()
	v, w := open(t, d, "log-1"), open(t, e, "log-1")
	add(t, v, "a", "b")
	wantLog(t, w, "log-1", 0)
	add(t, w, "c")
	wantErrno(t, v.Reset(lists("x")), api.OK)
	wantErrno(t, v.Reset(lists("y", "z")), api.OK)
	wantLog(t, w, "log-1", 1)
	wantFiles(t, e, files{"log-1": told(0, "c")})
	wantErrno(t, w.Reset(nil), api.OK)
	wantFiles(t, e, files{"log-2": laid()})
	open(t, d, "log-3", "y", "z")
}

// Calls that only look change nothing, nor do those that are refused.
func TestLookingChangesNothing(t *testing.T) {
	s := start(t, files{"other": "bytes"})
	s.append("a")
	s.sync()
	s.append("b")
	for range 3 {
		s.look()
		wantErrno(t, s.w.Append(make([]byte, api.MaxText+1)), api.ErrArg)
		wantErrno(t, s.w.Reset([][]byte{make([]byte, api.MaxText+1)}), api.ErrArg)
	}
	s.look()
	s.crash(0, 1)
}
