package crc_test

import (
	"bytes"
	"hash/crc32"
	"math"
	"math/rand"
	"slices"
	"sync"
	"testing"

	"matins/crc"
)

// plainSum is the sum as the chapter's section 'The sum' tells it, bit by bit.
func plainSum(b []byte) uint32 {
	register := uint32(math.MaxUint32)
	for _, x := range b {
		register ^= uint32(x)
		for range 8 {
			out := register & 1
			register >>= 1
			if out == 1 {
				register ^= 0xedb88320
			}
		}
	}
	return ^register
}

// lists are of many lengths and kinds: no bytes, each single byte, runs of one byte, and mixed ones.
func lists() [][]byte {
	all := [][]byte{nil, {}}
	for x := range 256 {
		all = append(all, []byte{byte(x)})
	}
	for _, n := range []int{2, 3, 4, 5, 7, 8, 9, 63, 64, 65, 255, 256, 257, 1000} {
		for _, x := range []byte{0, 1, 0x7f, 0x80, 0xff} {
			all = append(all, bytes.Repeat([]byte{x}, n))
		}
		mixed := make([]byte, n)
		rand.New(rand.NewSource(int64(n))).Read(mixed)
		all = append(all, mixed)
	}
	return all
}

func TestExamples(t *testing.T) {
	c := crc.New()
	if c == nil {
		t.Fatal("New: nil")
	}
	for _, x := range []struct {
		text string
		want uint32
	}{{"123456789", 0xcbf43926}, {"", 0}, {"a", 0xe8b7be43}, {"\x00\x00\x00\x00", 0x2144df1c}} {
		if got := c.Sum([]byte(x.text)); got != x.want {
			t.Errorf("P2.1: Sum(%q): %#x, want %#x", x.text, got, x.want)
		}
	}
	if got := c.More(c.Sum([]byte("1234")), []byte("56789")); got != 0xcbf43926 {
		t.Errorf("P2.1: More: %#x", got)
	}
}

func TestSumOfNothing(t *testing.T) {
	c := crc.New()
	if a, b := c.Sum(nil), c.Sum([]byte{}); a != 0 || b != 0 {
		t.Errorf("P2.1: %#x of nil, %#x of no bytes", a, b)
	}
}

func TestSums(t *testing.T) {
	c := crc.New()
	for _, b := range lists() {
		want := plainSum(b)
		if want != crc32.ChecksumIEEE(b) {
			t.Fatalf("the test's own sum of %x is wrong: %#x", b, want)
		}
		if got := c.Sum(b); got != want {
			t.Errorf("P2.1: Sum(%x): %#x, want %#x", b, got, want)
		}
	}
}

func TestSumOfManyBytes(t *testing.T) {
	b := make([]byte, 1<<20+3)
	rand.New(rand.NewSource(1)).Read(b)
	if got, want := crc.New().Sum(b), crc32.ChecksumIEEE(b); got != want {
		t.Errorf("P2.1: %#x, want %#x", got, want)
	}
}

func TestMoreFromEveryPlace(t *testing.T) {
	c := crc.New()
	for _, b := range lists() {
		want := plainSum(b)
		for i := range len(b) + 1 {
			if got := c.More(c.Sum(b[:i]), b[i:]); got != want {
				t.Errorf("P2.1: More of %x from %d: %#x, want %#x", b, i, got, want)
			}
		}
	}
}

func TestMoreByteByByte(t *testing.T) {
	c := crc.New()
	for _, b := range lists() {
		sum := uint32(0)
		for _, x := range b {
			sum = c.More(c.More(sum, nil), []byte{x})
		}
		if want := plainSum(b); sum != want {
			t.Errorf("P2.1: %x byte by byte: %#x, want %#x", b, sum, want)
		}
	}
}

// Every number is a sum of some bytes, so More must take each.
func TestMoreOfAnySum(t *testing.T) {
	c := crc.New()
	for _, sum := range []uint32{0, 1, 0x80000000, 0x7fffffff, 0xedb88320, 0xcbf43926, math.MaxUint32 - 1, math.MaxUint32} {
		if got := c.More(sum, nil); got != sum {
			t.Errorf("P2.1: More(%#x) of nothing: %#x", sum, got)
		}
		for _, b := range lists() {
			if got, want := c.More(sum, b), crc32.Update(sum, crc32.IEEETable, b); got != want {
				t.Errorf("P2.1: More(%#x, %x): %#x, want %#x", sum, b, got, want)
			}
		}
	}
}

// turn is b with the bits of mask turned, from the bit at on: bits are counted as they go in, the lowest of the first byte first.
func turn(b []byte, at int, mask uint32) []byte {
	other := slices.Clone(b)
	for i := range 32 {
		if mask>>i&1 == 1 {
			other[(at+i)/8] ^= 1 << ((at + i) % 8)
		}
	}
	return other
}

// masks are differences of up to so many bits in a row, each beginning with its first bit.
func masks(most int) []uint32 {
	var all []uint32
	chance := rand.New(rand.NewSource(2))
	for n := 1; n <= most; n++ {
		first, last := uint32(1), uint32(1)<<(n-1)
		inner := last - 1
		all = append(all, first|last, first|last|inner)
		for range 20 {
			all = append(all, first|last|chance.Uint32()&inner)
		}
	}
	return append(all, 0xedb88320|1)
}

func TestSumsDiffer(t *testing.T) {
	c := crc.New()
	for _, b := range lists() {
		sum := c.Sum(b)
		bits := len(b) * 8
		places := []int{0, 1, 7, 8, 31, 32, bits/2 - 1, bits / 2, bits - 33, bits - 32, bits - 31, bits - 9, bits - 8, bits - 1}
		for _, at := range places {
			if at < 0 || at >= bits {
				continue
			}
			for _, mask := range masks(min(32, bits-at)) {
				if bits-at < 32 && mask>>(bits-at) != 0 {
					continue
				}
				if other := turn(b, at, mask); c.Sum(other) == sum {
					t.Fatalf("P2.2: %x and %x: both %#x", b, other, sum)
				}
			}
		}
	}
}

// All differences of two bytes are few enough to try each.
func TestSumsOfTwoBytesDiffer(t *testing.T) {
	c := crc.New()
	seen := map[uint32]int{}
	for i := range 1 << 16 {
		sum := c.Sum([]byte{byte(i), byte(i >> 8)})
		if j, ok := seen[sum]; ok {
			t.Fatalf("P2.2: %04x and %04x: both %#x", i, j, sum)
		}
		seen[sum] = i
	}
}

func TestListIsNotChanged(t *testing.T) {
	c := crc.New()
	room := []byte("123456789abcdef")
	kept := slices.Clone(room)
	c.Sum(room[:9])
	c.More(7, room[3:9])
	if !bytes.Equal(room, kept) {
		t.Errorf("rule 5: %q, was %q", room, kept)
	}
}

func TestListIsNotKept(t *testing.T) {
	c := crc.New()
	b := []byte("1234")
	sum := c.Sum(b)
	clear(b)
	if got := c.More(sum, []byte("56789")); got != 0xcbf43926 {
		t.Errorf("rule 5: %#x", got)
	}
}

func TestCallsLeaveNothingBehind(t *testing.T) {
	c := crc.New()
	for range 3 {
		if got := c.Sum([]byte("123456789")); got != 0xcbf43926 {
			t.Errorf("rule 6: %#x", got)
		}
		c.More(99, []byte("other"))
		crc.New().Sum([]byte("more"))
	}
	if got := crc.New().More(0, []byte("123456789")); got != 0xcbf43926 {
		t.Errorf("rule 6: More as the first call: %#x", got)
	}
}

func TestFirstAskedAtOneTime(t *testing.T) {
	const rounds, callers = 200, 8
	for range rounds {
		c := crc.New()
		var group sync.WaitGroup
		var sums [callers]uint32
		start := make(chan struct{})
		for i := range sums {
			group.Go(func() {
				<-start
				sums[i] = c.Sum([]byte("123456789"))
			})
		}
		close(start)
		group.Wait()
		for _, got := range sums {
			if got != 0xcbf43926 {
				t.Fatalf("rule 6: %#x", got)
			}
		}
	}
}

func TestNilTable(t *testing.T) {
	var c *crc.Table
	if got := c.Sum([]byte("123456789")); got != 0xcbf43926 {
		t.Errorf("rule 1: Sum: %#x", got)
	}
	if got := c.More(c.Sum([]byte("1234")), []byte("56789")); got != 0xcbf43926 {
		t.Errorf("rule 1: More: %#x", got)
	}
	if got := c.Sum(nil); got != 0 {
		t.Errorf("rule 1: Sum of nothing: %#x", got)
	}
}
