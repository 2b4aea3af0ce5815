package crc

import (
	"bytes"
	"hash/crc32"
	"math/rand"
	"testing"
)

// defined is P1.1's definition, word by word.
func defined(b []byte) uint32 {
	register := uint32(0xFFFFFFFF)
	for _, c := range b {
		register ^= uint32(c)
		for range 8 {
			went := register & 1
			register >>= 1
			if went == 1 {
				register ^= 0xEDB88320
			}
		}
	}
	return ^register
}

func randomBytes(r *rand.Rand, n int) []byte {
	b := make([]byte, n)
	r.Read(b)
	return b
}

// P1.1
func TestSumOfKnownBytes(t *testing.T) {
	for _, c := range []struct {
		b    []byte
		want uint32
	}{
		{[]byte("123456789"), 0xCBF43926},
		{nil, 0},
		{[]byte{}, 0},
		{make([]byte, 0, 5), 0},
		{[]byte{0}, 0xD202EF8D},
		{[]byte{0, 0, 0, 0}, 0x2144DF1C},
		{[]byte{255, 255, 255, 255}, 0xFFFFFFFF},
		{[]byte("a"), 0xE8B7BE43},
		{[]byte("The quick brown fox jumps over the lazy dog"), 0x414FA339},
	} {
		if got := Sum(c.b); got != c.want {
			t.Errorf("Sum(%q) = %#x, want %#x", c.b, got, c.want)
		}
	}
}

// P1.1
func TestSumIsAsDefined(t *testing.T) {
	for c := range 256 {
		b := []byte{byte(c)}
		if Sum(b) != defined(b) {
			t.Errorf("Sum(%x) = %#x, want %#x", b, Sum(b), defined(b))
		}
	}
	r := rand.New(rand.NewSource(11))
	for n := range 300 {
		b := randomBytes(r, n)
		if got := Sum(b); got != defined(b) || got != crc32.ChecksumIEEE(b) {
			t.Errorf("Sum(%x) = %#x, want %#x", b, got, defined(b))
		}
	}
	long := randomBytes(r, 400000)
	if Sum(long) != defined(long) {
		t.Error("Sum of a long list")
	}
}

// P1.1
func TestMoreIsTheSumOfBoth(t *testing.T) {
	r := rand.New(rand.NewSource(12))
	b := randomBytes(r, 70)
	for i := range len(b) + 1 {
		if got := More(Sum(b[:i]), b[i:]); got != Sum(b) {
			t.Errorf("parted at %d: %#x, want %#x", i, got, Sum(b))
		}
		for j := range i + 1 {
			if got := More(More(Sum(b[:j]), b[j:i]), b[i:]); got != Sum(b) {
				t.Errorf("parted at %d and %d: %#x, want %#x", j, i, got, Sum(b))
			}
		}
	}
}

// P1.1: every number is the sum of some bytes, so More takes each.
func TestMoreOfAnySum(t *testing.T) {
	r := rand.New(rand.NewSource(13))
	sums := []uint32{0, 1, 0x7FFFFFFF, 0x80000000, 0xFFFFFFFF, 0xEDB88320}
	for range 200 {
		sums = append(sums, r.Uint32())
	}
	for _, sum := range sums {
		if More(sum, nil) != sum || More(sum, []byte{}) != sum {
			t.Errorf("More(%#x) of nothing isn't it", sum)
		}
		b := randomBytes(r, r.Intn(20))
		if got, want := More(sum, b), crc32.Update(sum, crc32.IEEETable, b); got != want {
			t.Errorf("More(%#x, %x) = %#x, want %#x", sum, b, got, want)
		}
	}
}

// P1.3: one bit, one byte in every way, and all bits of bytes beside one another.
func TestTurnedBytesHaveAnotherSum(t *testing.T) {
	r := rand.New(rand.NewSource(14))
	for _, n := range []int{1, 2, 5, 33, 100} {
		b := randomBytes(r, n)
		sum := Sum(b)
		for at := range n {
			for by := 1; by < 256; by++ {
				turned := bytes.Clone(b)
				turned[at] ^= byte(by)
				if Sum(turned) == sum {
					t.Fatalf("%x: byte %d turned by %#x", b, at, by)
				}
			}
			turned := bytes.Clone(b)
			for end := at; end < n; end++ {
				turned[end] = ^turned[end]
				if Sum(turned) == sum {
					t.Fatalf("%x: all bits from byte %d to %d", b, at, end)
				}
			}
		}
	}
}

// P1.3: up to four bytes beside one another, turned in any way.
func TestFewTurnedBytesHaveAnotherSum(t *testing.T) {
	r := rand.New(rand.NewSource(15))
	for range 20000 {
		b := randomBytes(r, 4+r.Intn(60))
		turned := bytes.Clone(b)
		at, many := r.Intn(len(b)-3), 1+r.Intn(4)
		for i := range many {
			turned[at+i] ^= byte(1 + r.Intn(255))
		}
		if Sum(turned) == Sum(b) {
			t.Fatalf("%x and %x have one sum", b, turned)
		}
	}
}
