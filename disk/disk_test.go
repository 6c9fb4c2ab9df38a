package disk_test

import (
	"bytes"
	"math"
	"math/rand"
	"slices"
	"strconv"
	"strings"
	"testing"

	"matins/api"
	"matins/disk"
)

const nameBytes = "abcdefghijklmnopqrstuvwxyz0123456789-."

// noNames are names that no file has.
var noNames = []string{
	"", " ", "A", "Z", "aB", "Ba", "a b", " a", "a ", "a/b", "a_b", "a:b", "a,b", "log+1", "a\x00", "\x00", "a\n", "\xff", "\x80a", "é", "aé", "ａ", "①", "\u0661",
	strings.Repeat("a", api.MaxName+1), strings.Repeat("-", api.MaxName+2), strings.Repeat(".", 1<<16), strings.Repeat("A", api.MaxName),
	strings.Repeat("a", api.MaxName-1) + "A", strings.Repeat("é", api.MaxName/2),
}

// ends are numbers at the ends of what a crash may be given.
var ends = []int{math.MinInt, math.MinInt + 1, math.MinInt32 - 1, math.MinInt32, -1 << 20, -2, -1, 0, 1, 2, 1 << 20, math.MaxInt32, math.MaxInt32 + 1, math.MaxInt - 1, math.MaxInt}

// put is a write as the chapter tells of it.
type put struct {
	name  string
	data  string
	waits bool
}

// paper reads the chapter plainly: the files' names, and all writes in the order in which they were made.
type paper struct {
	names []string
	puts  []put
}

// isName holds a name against a list of what it may be made of.
func isName(name string) bool {
	return name != "" && len(name) <= 16 && strings.Trim(name, nameBytes) == ""
}

func (p *paper) size() int {
	sum := 0
	for _, w := range p.puts {
		sum += len(w.data)
	}
	return sum
}

func (p *paper) append(name, data string) api.Errno {
	if !isName(name) {
		return api.ErrArg
	}
	there := slices.Contains(p.names, name)
	if !there && len(p.names)+1 > 64 {
		return api.ErrFull
	}
	if p.size()+len(data) > 1<<20 {
		return api.ErrFull
	}
	if !there {
		p.names = append(p.names, name)
	}
	p.puts = append(p.puts, put{name, data, true})
	return api.OK
}

func (p *paper) sync(name string) api.Errno {
	if !slices.Contains(p.names, name) {
		return api.ErrFile
	}
	for i, w := range p.puts {
		if w.name == name {
			p.puts[i].waits = false
		}
	}
	return api.OK
}

func (p *paper) remove(name string) api.Errno {
	if !slices.Contains(p.names, name) {
		return api.ErrFile
	}
	p.names = slices.DeleteFunc(p.names, func(other string) bool { return other == name })
	p.puts = slices.DeleteFunc(p.puts, func(w put) bool { return w.name == name })
	return api.OK
}

func (p *paper) read(name string) (string, api.Errno) {
	if !slices.Contains(p.names, name) {
		return "", api.ErrFile
	}
	text := ""
	for _, w := range p.puts {
		if w.name == name {
			text += w.data
		}
	}
	return text, api.OK
}

func (p *paper) sorted() []string { return slices.Sorted(slices.Values(p.names)) }

func (p *paper) waiting() int {
	n := 0
	for _, w := range p.puts {
		if w.waits {
			n++
		}
	}
	return n
}

func (p *paper) crash(keep, torn int) {
	n := 0
	for i := range p.puts {
		w := &p.puts[i]
		if !w.waits {
			continue
		}
		w.waits = false
		if n == max(keep, 0) {
			w.data = w.data[:min(max(torn, 0), len(w.data))]
		} else if n > max(keep, 0) {
			w.data = ""
		}
		n++
	}
}

func write(t testing.TB, d *disk.Disk, name, data string) {
	t.Helper()
	wantAppend(t, d, name, data, api.OK)
}

func sync(t testing.TB, d *disk.Disk, name string) {
	t.Helper()
	if e := d.Sync(name); e != api.OK {
		t.Fatalf("P9.1: Sync(%q): %d", name, e)
	}
}

func remove(t testing.TB, d *disk.Disk, name string) {
	t.Helper()
	if e := d.Remove(name); e != api.OK {
		t.Fatalf("P9.1: Remove(%q): %d", name, e)
	}
}

func wantAppend(t testing.TB, d *disk.Disk, name, data string, want api.Errno) {
	t.Helper()
	if e := d.Append(name, []byte(data)); e != want {
		t.Errorf("P9.1: Append(%q) of %d bytes: %d, want %d", name, len(data), e, want)
	}
}

func wantFile(t testing.TB, d *disk.Disk, name, want string) {
	t.Helper()
	b, e := d.Read(name)
	if string(b) != want || e != api.OK {
		t.Errorf("P9.2: Read(%q): %s, %d, want %s", name, short(string(b)), e, short(want))
	}
}

func wantNoFile(t testing.TB, d *disk.Disk, name string) {
	t.Helper()
	if b, e := d.Read(name); len(b) != 0 || e != api.ErrFile {
		t.Errorf("P9.2: Read(%q): %s, %d, want ErrFile", name, short(string(b)), e)
	}
	if e := d.Sync(name); e != api.ErrFile {
		t.Errorf("P9.1: Sync(%q): %d, want ErrFile", name, e)
	}
	if e := d.Remove(name); e != api.ErrFile {
		t.Errorf("P9.1: Remove(%q): %d, want ErrFile", name, e)
	}
}

// short tells a file's bytes; of many only how many they are.
func short(s string) string {
	if len(s) > 60 {
		return strconv.Itoa(len(s)) + " bytes"
	}
	return strconv.Quote(s)
}

// wantState holds what can be seen of a disk against a count of writes and names with bytes, one behind the other, rising by the names.
func wantState(t testing.TB, d *disk.Disk, waiting int, files ...string) {
	t.Helper()
	var names []string
	for i := 0; i < len(files); i += 2 {
		names = append(names, files[i])
		wantFile(t, d, files[i], files[i+1])
	}
	if got := d.Names(); !slices.Equal(got, names) {
		t.Errorf("P9.2: Names: %q, want %q", got, names)
	}
	if got := d.Waiting(); got != waiting {
		t.Errorf("P9.2: %d writes wait, want %d", got, waiting)
	}
}

// example is the disk of the chapter's first example.
func example(t testing.TB) *disk.Disk {
	t.Helper()
	d := disk.New()
	write(t, d, "a", "one")
	sync(t, d, "a")
	write(t, d, "a", "two")
	write(t, d, "b", "three")
	write(t, d, "a", "four")
	return d
}

func TestExamples(t *testing.T) {
	d := example(t)
	wantState(t, d, 3, "a", "onetwofour", "b", "three")
	d.Crash(1, 2)
	wantState(t, d, 0, "a", "onetwo", "b", "th")
	d = example(t)
	d.Crash(0, 0)
	wantState(t, d, 0, "a", "one", "b", "")
	wantAppend(t, d, "A", "..", api.ErrArg)
	wantAppend(t, d, "", "..", api.ErrArg)
	if e := d.Sync("c"); e != api.ErrFile {
		t.Errorf("P9.1: Sync(c): %d, want ErrFile", e)
	}
	remove(t, d, "b")
	wantState(t, d, 0, "a", "one")
}

// The fourth of the document's ten examples.
func TestExampleOfTheWhole(t *testing.T) {
	d := disk.New()
	write(t, d, "x", "one")
	sync(t, d, "x")
	write(t, d, "x", "two")
	write(t, d, "y", "three")
	write(t, d, "x", "four")
	d.Crash(1, 2)
	wantState(t, d, 0, "x", "onetwo", "y", "th")
}

func TestNew(t *testing.T) {
	d := disk.New()
	if d == nil {
		t.Fatal("New: nil")
	}
	wantState(t, d, 0)
	for _, name := range append([]string{"a", "log-1"}, noNames...) {
		wantNoFile(t, d, name)
	}
	d.Crash(1, 1)
	wantState(t, d, 0)
}

func TestAppend(t *testing.T) {
	d := disk.New()
	write(t, d, "log-1", "ab")
	wantState(t, d, 1, "log-1", "ab")
	write(t, d, "log-1", "c\x00\xff")
	wantState(t, d, 2, "log-1", "abc\x00\xff")
	write(t, d, "log-0", "x")
	write(t, d, "log-1", "d")
	wantState(t, d, 4, "log-0", "x", "log-1", "abc\x00\xffd")
	sync(t, d, "log-1")
	write(t, d, "log-1", "e")
	wantState(t, d, 2, "log-0", "x", "log-1", "abc\x00\xffde")
}

func TestNamesOfEachLength(t *testing.T) {
	for n := 1; n <= api.MaxName; n++ {
		d := disk.New()
		name := strings.Repeat("z", n)
		write(t, d, name, "x")
		wantState(t, d, 1, name, "x")
		sync(t, d, name)
		wantState(t, d, 0, name, "x")
		remove(t, d, name)
		wantState(t, d, 0)
	}
	d := disk.New()
	for _, name := range noNames {
		wantAppend(t, d, name, "x", api.ErrArg)
		wantAppend(t, d, name, "", api.ErrArg)
		wantNoFile(t, d, name)
	}
	wantState(t, d, 0)
}

// Each byte, alone and at each place of a long name.
func TestNamesOfEachByte(t *testing.T) {
	allowed := 0
	for c := range 256 {
		want := api.ErrArg
		if strings.IndexByte(nameBytes, byte(c)) >= 0 {
			want = api.OK
			allowed++
		}
		wantAppend(t, disk.New(), string([]byte{byte(c)}), "x", want)
		for place := range api.MaxName {
			name := []byte(strings.Repeat("m", api.MaxName))
			name[place] = byte(c)
			d := disk.New()
			wantAppend(t, d, string(name), "x", want)
			if want == api.OK {
				wantState(t, d, 1, string(name), "x")
			} else {
				wantState(t, d, 0)
				wantNoFile(t, d, string(name))
			}
		}
	}
	if allowed != 26+10+2 {
		t.Errorf("%d bytes are allowed", allowed)
	}
}

// Names rise as bytes, in whichever order the files were made.
func TestNamesRise(t *testing.T) {
	want := []string{"-", "--", "-a", ".", "0", "00", "01", "1", "10", "2", "9", "9.", "a", "a-", "a.", "a0", "aa", "ab", "b", "log-1", "log-10", "log-2", "z", "zz", "zzzzzzzzzzzzzzzz"}
	for seed := range int64(20) {
		d := disk.New()
		for _, n := range rand.New(rand.NewSource(seed)).Perm(len(want)) {
			write(t, d, want[n], "")
		}
		for range 3 {
			if got := d.Names(); !slices.Equal(got, want) {
				t.Fatalf("P9.2: Names: %q, want %q", got, want)
			}
		}
	}
}

func TestSync(t *testing.T) {
	d := disk.New()
	for _, data := range []string{"1", "2", "3"} {
		write(t, d, "a", "a"+data)
		write(t, d, "b", "b"+data)
	}
	wantState(t, d, 6, "a", "a1a2a3", "b", "b1b2b3")
	sync(t, d, "a")
	wantState(t, d, 3, "a", "a1a2a3", "b", "b1b2b3")
	sync(t, d, "a")
	wantState(t, d, 3, "a", "a1a2a3", "b", "b1b2b3")
	d.Crash(0, 0)
	wantState(t, d, 0, "a", "a1a2a3", "b", "")
	sync(t, d, "b")
	wantState(t, d, 0, "a", "a1a2a3", "b", "")
}

// What was synced no crash takes back, also where later writes stand behind it.
func TestSyncThenCrash(t *testing.T) {
	for _, keep := range ends {
		for _, torn := range ends {
			d := disk.New()
			write(t, d, "a", "syn")
			write(t, d, "b", "gone")
			write(t, d, "a", "ced")
			sync(t, d, "a")
			d.Crash(min(keep, 0), min(torn, 0))
			wantState(t, d, 0, "a", "synced", "b", "")
			d.Crash(keep, torn)
			wantState(t, d, 0, "a", "synced", "b", "")
		}
	}
}

func TestSyncOfAllWrites(t *testing.T) {
	d := example(t)
	sync(t, d, "b")
	wantState(t, d, 2, "a", "onetwofour", "b", "three")
	sync(t, d, "a")
	wantState(t, d, 0, "a", "onetwofour", "b", "three")
	d.Crash(-1, -1)
	wantState(t, d, 0, "a", "onetwofour", "b", "three")
}

func TestRemove(t *testing.T) {
	d := example(t)
	remove(t, d, "a")
	wantState(t, d, 1, "b", "three")
	wantNoFile(t, d, "a")
	d.Crash(0, 1)
	wantState(t, d, 0, "b", "t")
	remove(t, d, "b")
	wantState(t, d, 0)
	wantNoFile(t, d, "b")
}

// That a file is removed holds at once: a crash brings back neither it nor what was synced in it.
func TestRemovedStaysRemoved(t *testing.T) {
	for _, keep := range ends {
		d := example(t)
		remove(t, d, "a")
		d.Crash(keep, keep)
		wantNoFile(t, d, "a")
		if got := d.Names(); !slices.Equal(got, []string{"b"}) {
			t.Errorf("P9.1: Names behind Remove and Crash(%d): %q", keep, got)
		}
	}
}

// The writes of a removed file are gone: a crash doesn't count them.
func TestRemovedWritesArentCounted(t *testing.T) {
	for _, r := range []struct {
		keep, torn int
		a, b       string
	}{{0, 0, "", ""}, {0, 1, "1", ""}, {0, 9, "12", ""}, {1, 0, "12", ""}, {1, 1, "12", "3"}, {2, 0, "12", "3"}, {2, 1, "12", "34"}, {3, 0, "12", "34"}, {5, 0, "12", "34"}} {
		d := disk.New()
		write(t, d, "gone", "xx")
		write(t, d, "a", "12")
		write(t, d, "gone", "yyy")
		write(t, d, "b", "3")
		write(t, d, "gone", "z")
		write(t, d, "b", "4")
		remove(t, d, "gone")
		wantState(t, d, 3, "a", "12", "b", "34")
		d.Crash(r.keep, r.torn)
		wantState(t, d, 0, "a", r.a, "b", r.b)
	}
}

// A file that is made again is a new one: it has no bytes and no writes of the old one.
func TestRemovedAndMadeAgain(t *testing.T) {
	again := func() *disk.Disk {
		d := disk.New()
		write(t, d, "a", "kept")
		sync(t, d, "a")
		write(t, d, "a", "old")
		write(t, d, "b", "bee")
		write(t, d, "a", "older")
		remove(t, d, "a")
		wantNoFile(t, d, "a")
		write(t, d, "a", "new")
		wantState(t, d, 2, "a", "new", "b", "bee")
		return d
	}
	for _, r := range []struct {
		keep, torn int
		a, b       string
	}{{0, 0, "", ""}, {0, 2, "", "be"}, {0, 9, "", "bee"}, {1, 0, "", "bee"}, {1, 1, "n", "bee"}, {1, 3, "new", "bee"}, {2, 0, "new", "bee"}, {3, 0, "new", "bee"}} {
		d := again()
		d.Crash(r.keep, r.torn)
		wantState(t, d, 0, "a", r.a, "b", r.b)
	}
	d := again()
	sync(t, d, "a")
	wantState(t, d, 1, "a", "new", "b", "bee")
	d.Crash(0, 0)
	wantState(t, d, 0, "a", "new", "b", "")
}

func TestWritesOfNoBytes(t *testing.T) {
	d := disk.New()
	if e := d.Append("a", nil); e != api.OK {
		t.Fatalf("P9.1: Append of nil: %d", e)
	}
	wantState(t, d, 1, "a", "")
	write(t, d, "a", "")
	wantState(t, d, 2, "a", "")
	write(t, d, "b", "xy")
	write(t, d, "a", "")
	write(t, d, "b", "z")
	wantState(t, d, 5, "a", "", "b", "xyz")
	sync(t, d, "a")
	wantState(t, d, 2, "a", "", "b", "xyz")
}

// A write of no bytes counts among those that a crash keeps, and may be the one that is torn.
func TestCrashCountsWritesOfNoBytes(t *testing.T) {
	for keep, want := range []string{"", "1", "1", "1", "12", "123", "123"} {
		d := disk.New()
		write(t, d, "a", "1")
		write(t, d, "a", "")
		write(t, d, "b", "")
		write(t, d, "a", "2")
		write(t, d, "a", "3")
		d.Crash(keep, 0)
		wantState(t, d, 0, "a", want, "b", "")
	}
	for keep := 1; keep <= 2; keep++ {
		d := disk.New()
		write(t, d, "a", "1")
		write(t, d, "a", "")
		write(t, d, "b", "")
		write(t, d, "a", "2")
		d.Crash(keep, 100)
		wantState(t, d, 0, "a", "1", "b", "")
	}
}

func TestErrorsOfAppendInOrder(t *testing.T) {
	d := disk.New()
	for i := range api.MaxFiles {
		write(t, d, "f"+strconv.Itoa(i), "")
	}
	write(t, d, "f0", strings.Repeat("x", api.MaxDisk))
	for _, name := range noNames {
		wantAppend(t, d, name, "x", api.ErrArg)
		wantAppend(t, d, name, "", api.ErrArg)
	}
	wantAppend(t, d, "g", "", api.ErrFull)
	wantAppend(t, d, "g", "x", api.ErrFull)
	wantAppend(t, d, "f1", "x", api.ErrFull)
	wantAppend(t, d, "f1", "", api.OK)
	if d.Waiting() != api.MaxFiles+2 {
		t.Errorf("rule 3: %d writes wait", d.Waiting())
	}
}

// Only Append says ErrArg: of a name that no file may have, the others say that there is no such file.
func TestNoNamesAreNoFiles(t *testing.T) {
	d := example(t)
	for _, name := range append([]string{"c", "aa", "ab", "a.", "-a"}, noNames...) {
		wantNoFile(t, d, name)
	}
	wantState(t, d, 3, "a", "onetwofour", "b", "three")
}

func TestMaxFiles(t *testing.T) {
	d := disk.New()
	var files []string
	for i := range api.MaxFiles {
		name := "f" + strconv.Itoa(100+i)
		write(t, d, name, "x")
		files = append(files, name, "x")
	}
	wantState(t, d, api.MaxFiles, files...)
	for range 2 {
		wantAppend(t, d, "g", "", api.ErrFull)
		wantAppend(t, d, "g", "x", api.ErrFull)
		wantNoFile(t, d, "g")
	}
	wantState(t, d, api.MaxFiles, files...)
	write(t, d, "f107", "y")
	files[2*7+1] = "xy"
	wantState(t, d, api.MaxFiles+1, files...)
	d.Crash(0, 0)
	wantAppend(t, d, "g", "", api.ErrFull)
	for i := 1; i < len(files); i += 2 {
		files[i] = ""
	}
	wantState(t, d, 0, files...)
	remove(t, d, "f163")
	write(t, d, "g", "z")
	wantAppend(t, d, "f163", "", api.ErrFull)
	wantState(t, d, 1, append(files[:2*63], "g", "z")...)
}

func TestMaxDiskInOneFile(t *testing.T) {
	all := strings.Repeat("0123456789abcdef", api.MaxDisk/16)
	d := disk.New()
	wantAppend(t, d, "a", all+"x", api.ErrFull)
	wantState(t, d, 0)
	wantNoFile(t, d, "a")
	write(t, d, "a", all)
	wantState(t, d, 1, "a", all)
	wantAppend(t, d, "a", "x", api.ErrFull)
	wantAppend(t, d, "b", "x", api.ErrFull)
	wantNoFile(t, d, "b")
	wantState(t, d, 1, "a", all)
	write(t, d, "a", "")
	write(t, d, "b", "")
	wantState(t, d, 3, "a", all, "b", "")
	d.Crash(0, api.MaxDisk-1)
	wantState(t, d, 0, "a", all[:api.MaxDisk-1], "b", "")
	wantAppend(t, d, "b", "xy", api.ErrFull)
	write(t, d, "b", "x")
	wantAppend(t, d, "b", "y", api.ErrFull)
	wantState(t, d, 1, "a", all[:api.MaxDisk-1], "b", "x")
}

// The bytes of all files count, those that were synced and those that weren't, and no others.
func TestMaxDiskOverAllFiles(t *testing.T) {
	d := disk.New()
	part := strings.Repeat("p", api.MaxDisk/4)
	for _, name := range []string{"a", "b", "c"} {
		write(t, d, name, part)
	}
	sync(t, d, "b")
	wantAppend(t, d, "d", part+"x", api.ErrFull)
	wantAppend(t, d, "c", part+"x", api.ErrFull)
	wantNoFile(t, d, "d")
	write(t, d, "d", part[1:])
	wantAppend(t, d, "e", "xy", api.ErrFull)
	write(t, d, "a", "x")
	wantAppend(t, d, "a", "x", api.ErrFull)
	wantState(t, d, 4, "a", part+"x", "b", part, "c", part, "d", part[1:])
	remove(t, d, "b")
	wantAppend(t, d, "b", part+"x", api.ErrFull)
	write(t, d, "b", part)
	wantAppend(t, d, "c", "x", api.ErrFull)
	d.Crash(1, 5)
	wantState(t, d, 0, "a", part, "b", "", "c", part[:5], "d", "")
	wantAppend(t, d, "d", strings.Repeat("q", 3*api.MaxDisk/4-4), api.ErrFull)
	write(t, d, "d", strings.Repeat("q", 3*api.MaxDisk/4-5))
	wantAppend(t, d, "e", "x", api.ErrFull)
}

func TestMuchMoreThanMaxDisk(t *testing.T) {
	d := disk.New()
	write(t, d, "a", "x")
	for _, n := range []int{api.MaxDisk, api.MaxDisk + 1, 2 * api.MaxDisk, 1 << 25} {
		if e := d.Append("b", make([]byte, n)); e != api.ErrFull {
			t.Errorf("P9.1: Append of %d bytes: %d, want ErrFull", n, e)
		}
	}
	wantState(t, d, 1, "a", "x")
}

// A refused Append is no write: a crash doesn't count it, and nothing of it stands in a file.
func TestRefusedIsNoWrite(t *testing.T) {
	d := disk.New()
	most := strings.Repeat("m", api.MaxDisk-3)
	write(t, d, "a", most)
	sync(t, d, "a")
	write(t, d, "a", "1")
	wantAppend(t, d, "a", "234", api.ErrFull)
	wantAppend(t, d, "A", "2", api.ErrArg)
	wantAppend(t, d, "b", "234", api.ErrFull)
	write(t, d, "a", "5")
	wantState(t, d, 2, "a", most+"15")
	d.Crash(1, 0)
	wantState(t, d, 0, "a", most+"1")
}

// mixed is a disk whose files' writes are mixed, of zero to five bytes, some of them synced; beside it the same on paper.
func mixed(t testing.TB) (*disk.Disk, *paper) {
	t.Helper()
	d, p := disk.New(), &paper{}
	for i, name := range strings.Fields("a b a c c b a d b c a a d b") {
		data := strconv.Itoa(1000000 * (i + 1))[:1+i%6]
		if i%6 == 5 {
			data = ""
		}
		write(t, d, name, data)
		p.append(name, data)
		if i == 4 {
			sync(t, d, "a")
			p.sync("a")
		}
	}
	return d, p
}

func wantPaper(t testing.TB, d *disk.Disk, p *paper) {
	t.Helper()
	var files []string
	for _, name := range p.sorted() {
		text, _ := p.read(name)
		files = append(files, name, text)
	}
	wantState(t, d, p.waiting(), files...)
}

// Crashes with each keep and each torn, from below 0 to beyond the last.
func TestCrashAtEachPlace(t *testing.T) {
	_, all := mixed(t)
	if all.waiting() != 12 {
		t.Fatalf("%d writes wait", all.waiting())
	}
	keeps, torns := slices.Clone(ends), slices.Clone(ends)
	for n := 3; n <= all.waiting()+2; n++ {
		keeps, torns = append(keeps, n), append(torns, n)
	}
	for _, keep := range keeps {
		for _, torn := range torns {
			d, p := mixed(t)
			d.Crash(keep, torn)
			p.crash(keep, torn)
			wantPaper(t, d, p)
			if t.Failed() {
				t.Fatalf("P9.3: Crash(%d, %d)", keep, torn)
			}
		}
	}
}

// The places of the chapter's first example, written out.
func TestCrashWrittenOut(t *testing.T) {
	for _, r := range []struct {
		keep, torn int
		a, b       string
	}{
		{-1, 0, "one", ""}, {-1, -1, "one", ""}, {-7, 2, "onetw", ""}, {math.MinInt, math.MaxInt, "onetwo", ""},
		{0, -1, "one", ""}, {0, 1, "onet", ""}, {0, 2, "onetw", ""}, {0, 3, "onetwo", ""}, {0, 4, "onetwo", ""},
		{1, -1, "onetwo", ""}, {1, 0, "onetwo", ""}, {1, 1, "onetwo", "t"}, {1, 4, "onetwo", "thre"}, {1, 5, "onetwo", "three"}, {1, 6, "onetwo", "three"}, {1, 9, "onetwo", "three"},
		{2, math.MinInt, "onetwo", "three"}, {2, 0, "onetwo", "three"}, {2, 3, "onetwofou", "three"}, {2, 4, "onetwofour", "three"}, {2, math.MaxInt, "onetwofour", "three"},
		{3, -1, "onetwofour", "three"}, {3, 0, "onetwofour", "three"}, {4, 0, "onetwofour", "three"}, {math.MaxInt, math.MinInt, "onetwofour", "three"},
	} {
		d := example(t)
		d.Crash(r.keep, r.torn)
		wantState(t, d, 0, "a", r.a, "b", r.b)
		if t.Failed() {
			t.Fatalf("P9.3: Crash(%d, %d)", r.keep, r.torn)
		}
	}
}

// Writes are counted in the order in which they were made, whichever files' writes were synced in between.
func TestCrashOrderBehindSync(t *testing.T) {
	d := disk.New()
	write(t, d, "z", "1")
	write(t, d, "a", "2")
	write(t, d, "m", "3")
	sync(t, d, "a")
	write(t, d, "a", "4")
	write(t, d, "z", "5")
	wantState(t, d, 4, "a", "24", "m", "3", "z", "15")
	d.Crash(2, 0)
	wantState(t, d, 0, "a", "2", "m", "3", "z", "1")
}

// The files are there still, those too of which no byte stays, and may be written on.
func TestFilesStayBehindCrash(t *testing.T) {
	d := disk.New()
	write(t, d, "a", "gone")
	write(t, d, "b", "")
	d.Crash(0, 0)
	wantState(t, d, 0, "a", "", "b", "")
	write(t, d, "a", "new")
	wantState(t, d, 1, "a", "new", "b", "")
	sync(t, d, "a")
	d.Crash(0, 0)
	wantState(t, d, 0, "a", "new", "b", "")
}

// What a crash left waits no more: the next one takes back none of it, but what was written in between.
func TestCrashBehindCrash(t *testing.T) {
	for _, keep := range ends {
		d := example(t)
		d.Crash(2, 1)
		d.Crash(keep, keep)
		wantState(t, d, 0, "a", "onetwof", "b", "three")
	}
	d := example(t)
	d.Crash(1, 2)
	write(t, d, "b", "ese")
	write(t, d, "a", "!")
	wantState(t, d, 2, "a", "onetwo!", "b", "these")
	d.Crash(0, 1)
	wantState(t, d, 0, "a", "onetwo", "b", "the")
	write(t, d, "a", "?")
	d.Crash(1, 0)
	wantState(t, d, 0, "a", "onetwo?", "b", "the")
}

func TestCrashOfManyWrites(t *testing.T) {
	const count = 20000
	for _, keep := range []int{0, 1, 127, 128, 9999, count - 1, count} {
		d := disk.New()
		var want [7][]byte
		for i := range count {
			name := string(rune('a' + i%7))
			c := byte(i * i % 251)
			if e := d.Append(name, []byte{c, c + 1}); e != api.OK {
				t.Fatalf("P9.1: Append: %d", e)
			}
			if i < keep {
				want[i%7] = append(want[i%7], c, c+1)
			} else if i == keep {
				want[i%7] = append(want[i%7], c)
			}
		}
		if d.Waiting() != count {
			t.Errorf("P9.2: %d writes wait", d.Waiting())
		}
		d.Crash(keep, 1)
		for n := range want {
			wantFile(t, d, string(rune('a'+n)), string(want[n]))
		}
		if d.Waiting() != 0 {
			t.Errorf("P9.3: %d writes wait behind a crash", d.Waiting())
		}
	}
}

// Many syncs beside many writes of another file that wait end soon.
func TestManySyncs(t *testing.T) {
	d := disk.New()
	for range 100000 {
		d.Append("b", []byte("b"))
	}
	for range 100000 {
		d.Append("a", []byte("a"))
		d.Sync("a")
	}
	wantState(t, d, 100000, "a", strings.Repeat("a", 100000), "b", strings.Repeat("b", 100000))
	d.Crash(7, 0)
	wantState(t, d, 0, "a", strings.Repeat("a", 100000), "b", "bbbbbbb")
}

// held is a disk beside a paper: each call is made to both.
type held struct {
	t testing.TB
	d *disk.Disk
	p *paper
}

func (h held) append(name, data string) {
	if got, want := h.d.Append(name, []byte(data)), h.p.append(name, data); got != want {
		h.t.Fatalf("P9.1: Append(%q) of %d bytes: %d, want %d", name, len(data), got, want)
	}
}

func (h held) sync(name string) {
	if got, want := h.d.Sync(name), h.p.sync(name); got != want {
		h.t.Fatalf("P9.1: Sync(%q): %d, want %d", name, got, want)
	}
}

func (h held) remove(name string) {
	if got, want := h.d.Remove(name), h.p.remove(name); got != want {
		h.t.Fatalf("P9.1: Remove(%q): %d, want %d", name, got, want)
	}
}

func (h held) read(name string) {
	got, e := h.d.Read(name)
	want, f := h.p.read(name)
	if string(got) != want || e != f {
		h.t.Fatalf("P9.2: Read(%q): %s, %d, want %s, %d", name, short(string(got)), e, short(want), f)
	}
}

func (h held) crash(keep, torn int) {
	h.d.Crash(keep, torn)
	h.p.crash(keep, torn)
}

func (h held) look() {
	wantPaper(h.t, h.d, h.p)
	if h.t.Failed() {
		h.t.FailNow()
	}
}

// text is up to most bytes by chance.
func text(r *rand.Rand, most int) string {
	b := make([]byte, r.Intn(most+1))
	r.Read(b)
	return string(b)
}

// Scripts of all calls by chance, right and wrong ones, held against the paper.
func TestScripts(t *testing.T) {
	for seed := range int64(300) {
		r := rand.New(rand.NewSource(seed))
		h := held{t, disk.New(), &paper{}}
		few := 1 + r.Intn(6)
		name := func() string {
			if r.Intn(30) == 0 {
				return noNames[r.Intn(len(noNames))]
			}
			return "f" + strconv.Itoa(r.Intn(few))
		}
		for range 150 {
			switch r.Intn(16) {
			case 0, 1:
				h.sync(name())
			case 2:
				h.remove(name())
			case 3:
				h.read(name())
			case 4:
				h.crash(r.Intn(12)-2, r.Intn(8)-2)
			case 5:
				h.crash(ends[r.Intn(len(ends))], ends[r.Intn(len(ends))])
			default:
				h.append(name(), text(r, 5))
			}
			h.look()
		}
	}
}

// As TestScripts, around the limits of files and bytes.
func TestScriptsNearTheLimits(t *testing.T) {
	for seed := range int64(4) {
		r := rand.New(rand.NewSource(seed))
		h := held{t, disk.New(), &paper{}}
		name := func() string { return "f" + strconv.Itoa(r.Intn(api.MaxFiles+10)) }
		for range 500 {
			switch r.Intn(24) {
			case 0:
				h.sync(name())
			case 1:
				h.remove(name())
			case 2:
				h.crash(r.Intn(200), r.Intn(1<<15))
			case 3:
				h.append(name(), strings.Repeat("r", max(api.MaxDisk-h.p.size()+r.Intn(3)-1, 0)))
			default:
				h.append(name(), text(r, 1<<15))
			}
			if r.Intn(20) == 0 {
				h.look()
			}
		}
		h.look()
	}
}

// spoil writes over a list, its spare room too.
func spoil(b []byte) {
	b = b[:cap(b)]
	for i := range b {
		b[i] = '#'
	}
}

// What is handed in is neither changed nor kept, its spare room neither.
func TestHandedInIsNotKept(t *testing.T) {
	d := disk.New()
	room := []byte("one-spare-room-behind-it-that-is-long-enough-for-more-writes")
	kept := bytes.Clone(room)
	b := room[:3]
	for range 3 {
		if e := d.Append("a", b); e != api.OK {
			t.Fatalf("P9.1: Append: %d", e)
		}
		write(t, d, "a", "more")
	}
	if !bytes.Equal(room, kept) {
		t.Errorf("rule 5: what was handed in is %q now", room)
	}
	spoil(b)
	wantState(t, d, 6, "a", "onemoreonemoreonemore")
	handed := []byte("same")
	d.Append("b", handed)
	d.Append("c", handed)
	write(t, d, "b", "1")
	write(t, d, "c", "2")
	wantFile(t, d, "b", "same1")
	wantFile(t, d, "c", "same2")
	d.Crash(7, 2)
	if string(handed) != "same" {
		t.Errorf("rule 5: what was handed in is %q now", handed)
	}
}

// An answer is new memory: whoever writes into it changes no disk and no other answer.
func TestAnswersAreNew(t *testing.T) {
	d := example(t)
	first, _ := d.Read("a")
	second, _ := d.Read("a")
	spoil(first)
	if string(second) != "onetwofour" {
		t.Errorf("rule 5: an answer was changed by way of another one: %q", second)
	}
	wantState(t, d, 3, "a", "onetwofour", "b", "three")
	write(t, d, "a", "five")
	spoil(second)
	wantFile(t, d, "a", "onetwofourfive")
	third, _ := d.Read("a")
	d.Crash(0, 1)
	write(t, d, "a", "@@@@@@@@@@")
	if string(third) != "onetwofourfive" {
		t.Errorf("rule 5: an answer was changed by way of the disk: %q", third)
	}
	spoil(third)
	wantFile(t, d, "a", "onet@@@@@@@@@@")
	names, others := d.Names(), d.Names()
	names = names[:cap(names)]
	for i := range names {
		names[i] = "#"
	}
	if !slices.Equal(others, []string{"a", "b"}) {
		t.Errorf("rule 5: a list was changed by way of another one: %q", others)
	}
	wantState(t, d, 1, "a", "onet@@@@@@@@@@", "b", "")
}

// A file's answer may be handed in again, to the same file too.
func TestReadAndAppend(t *testing.T) {
	d := disk.New()
	write(t, d, "a", "ab")
	for range 3 {
		b, _ := d.Read("a")
		if e := d.Append("a", b); e != api.OK {
			t.Fatalf("P9.1: Append: %d", e)
		}
		spoil(b)
	}
	wantState(t, d, 4, "a", strings.Repeat("ab", 8))
}

func TestDisksAreApart(t *testing.T) {
	a, b := disk.New(), disk.New()
	write(t, a, "x", "ax")
	wantState(t, b, 0)
	write(t, b, "x", "bx")
	write(t, b, "x", "by")
	sync(t, a, "x")
	wantState(t, b, 2, "x", "bxby")
	a.Crash(0, 0)
	wantState(t, a, 0, "x", "ax")
	wantState(t, b, 2, "x", "bxby")
	remove(t, a, "x")
	wantState(t, b, 2, "x", "bxby")
	b.Crash(1, 1)
	wantState(t, a, 0)
	wantState(t, b, 0, "x", "bxb")
}

// Calls that only look change nothing, nor do those that are refused.
func TestLookingChangesNothing(t *testing.T) {
	d := example(t)
	for range 3 {
		wantState(t, d, 3, "a", "onetwofour", "b", "three")
		wantNoFile(t, d, "c")
		wantAppend(t, d, "C", "x", api.ErrArg)
	}
	d.Crash(1, 2)
	wantState(t, d, 0, "a", "onetwo", "b", "th")
}

func TestNil(t *testing.T) {
	var d *disk.Disk
	for _, name := range append([]string{"a", "log-1"}, noNames...) {
		wantAppend(t, d, name, "x", api.ErrArg)
		wantAppend(t, d, name, "", api.ErrArg)
		wantNoFile(t, d, name)
	}
	for _, n := range ends {
		d.Crash(n, n)
	}
	wantState(t, d, 0)
}
