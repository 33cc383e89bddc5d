package image

import (
	"math"
	"slices"
	"strings"
	"testing"
)

// zero is a sector of zero bytes.
const zero = "\x00\x00\x00\x00\x00\x00\x00\x00"

// Example 1.
func TestExample(t *testing.T) {
	if im, ok := Half(Zero(1), 0, "abcdefgh"); im != "abcd\x00\x00\x00\x00" || !ok {
		t.Errorf("%q %v", im, ok)
	}
}

// P19.1: an image has whole sectors, and at most 128 of them, which may be none. Its bytes do not matter.
func TestValid(t *testing.T) {
	for _, c := range []struct {
		im   string
		want bool
	}{
		{"", true}, {"a", false}, {"abcd", false}, {"abcdefg", false}, {"abcdefgh", true}, {"abcdefghi", false}, {"abcdefghabcdefgh", true}, {zero, true},
		{"\u00e4\u00f6\u00fc\u00df", true}, {"\u00e4\u00f6\u00fc\u00df\u00c4\u00d6\u00dcu", false}, {"\xff\xff\xff\xff\xff\xff\xff\xff", true},
		{strings.Repeat("a", 1016), true}, {strings.Repeat("a", 1023), false}, {strings.Repeat("a", 1024), true}, {strings.Repeat("a", 1025), false}, {strings.Repeat("a", 1031), false}, {strings.Repeat("a", 1032), false}, {strings.Repeat("a", 2048), false},
	} {
		if got := Valid(c.im); got != c.want {
			t.Errorf("%d bytes, %q: %v", len(c.im), c.im, got)
		}
	}
	for n := range 2100 {
		expectValid(t, strings.Repeat("\x00", n))
		expectValid(t, text('A', n))
	}
}

// P19.1: all numbers of sectors that an image can have.
func TestZero(t *testing.T) {
	want := ""
	for n := 0; n <= 128; n++ {
		if im := Zero(n); im != want || !Valid(im) {
			t.Errorf("%d sectors: %q", n, im)
		}
		want += zero
	}
}

// P19.1: numbers of sectors that no image has.
func TestZeroRange(t *testing.T) {
	for _, n := range append([]int{-1, -2, -7, 129, 130, 136, 256, 1024, 1025}, farNumbers...) {
		if im := Zero(n); im != "" {
			t.Errorf("%d sectors: %q", n, im)
		}
	}
}

// readCase is a call of Read, written down by hand.
type readCase struct {
	im            string
	sector, count int
	want          string
	ok            bool
}

// P19.2: the bytes of the sectors, and what there is not.
func TestRead(t *testing.T) {
	const three = "aaaaAAAAbbbbBBBBccccCCCC"
	full := strings.Repeat("x", 1016) + "lastLAST"
	for _, c := range []readCase{
		{three, 0, 1, "aaaaAAAA", true}, {three, 1, 1, "bbbbBBBB", true}, {three, 2, 1, "ccccCCCC", true}, {three, 0, 2, "aaaaAAAAbbbbBBBB", true}, {three, 1, 2, "bbbbBBBBccccCCCC", true}, {three, 0, 3, three, true}, {"abcdefgh", 0, 1, "abcdefgh", true},
		{full, 127, 1, "lastLAST", true}, {full, 126, 2, "xxxxxxxxlastLAST", true}, {full, 0, 128, full, true},
		{three, 3, 1, "", false}, {three, 2, 2, "", false}, {three, 1, 3, "", false}, {three, 0, 4, "", false}, {three, -1, 1, "", false}, {three, -1, 2, "", false}, {three, -1, 4, "", false}, {three, -3, 6, "", false}, {"", 0, 1, "", false}, {full, 128, 1, "", false}, {full, 127, 2, "", false}, {full, 1, 128, "", false}, {full, 0, 129, "", false},
		{three, 0, 0, "", false}, {three, 1, 0, "", false}, {three, 3, 0, "", false}, {three, 2, -1, "", false}, {three, 3, -1, "", false}, {three, 3, -3, "", false}, {"", 0, 0, "", false}, {"", 1, -1, "", false},
		{three[:23], 0, 1, "", false}, {three + "d", 0, 1, "", false}, {"abcd", 0, 1, "", false}, {full + "abcdefgh", 0, 1, "", false}, {full + "abcdefgh", 128, 1, "", false}, {full + "a", 0, 1, "", false},
	} {
		if got, ok := Read(c.im, c.sector, c.count); got != c.want || ok != c.ok {
			t.Errorf("%d sectors from %d on of %q: %q %v, want %q %v", c.count, c.sector, c.im, got, ok, c.want, c.ok)
		}
	}
}

// P19.2: all sectors and counts of images of all kinds, right or not, and numbers that are far from them.
func TestReadAll(t *testing.T) {
	for _, im := range slices.Concat(images(), badImages()) {
		numbers := numbersFor(im)
		for _, first := range numbers {
			for _, count := range append([]int{0, 1, 2, 3, 64, 127, 128, 129}, numbers...) {
				expectRead(t, im, first, count)
			}
		}
	}
	whole := text('0', 1024)
	for first := range 129 {
		for count := range 130 {
			expectRead(t, whole, first, count)
		}
	}
}

// writeCase is a call of Write or Half, written down by hand.
type writeCase struct {
	im     string
	sector int
	data   string
	want   string
	ok     bool
}

// P19.3: the sectors get the bytes, and what Write rejects.
func TestWrite(t *testing.T) {
	const three = "aaaaAAAAbbbbBBBBccccCCCC"
	full := strings.Repeat("x", 1024)
	for _, c := range []writeCase{
		{three, 0, "12345678", "12345678bbbbBBBBccccCCCC", true}, {three, 1, "12345678", "aaaaAAAA12345678ccccCCCC", true}, {three, 2, "12345678", "aaaaAAAAbbbbBBBB12345678", true}, {three, 1, "1234567887654321", "aaaaAAAA1234567887654321", true}, {three, 0, "123456781234567812345678", "123456781234567812345678", true}, {three, 1, zero, "aaaaAAAA" + zero + "ccccCCCC", true}, {three, 1, "bbbbBBBB", three, true},
		{full, 127, "12345678", full[:1016] + "12345678", true}, {full, 0, zero, zero + full[:1016], true}, {full, 0, Zero(128), Zero(128), true},
		{three, 3, "12345678", "", false}, {three, 2, "1234567812345678", "", false}, {three, 0, three + "12345678", "", false}, {three, -1, "12345678", "", false}, {three, -1, "1234567812345678", "", false}, {three, -3, three + three, "", false}, {"", 0, "12345678", "", false}, {full, 128, "12345678", "", false}, {full, 1, full, "", false}, {full, 0, full + "12345678", "", false},
		{three, 0, "", "", false}, {three, 3, "", "", false}, {"", 0, "", "", false}, {three, 0, "1", "", false}, {three, 0, "1234", "", false}, {three, 0, "1234567", "", false}, {three, 0, "123456781", "", false}, {three, 1, "123456781234567", "", false}, {three, 0, "\u00e4\u00f6\u00fc\u00df\u00c4\u00d6\u00dcu", "", false},
		{three[:23], 0, "12345678", "", false}, {three + "d", 0, "12345678", "", false}, {"abcd", 0, "12345678", "", false}, {full + "abcdefgh", 0, "12345678", "", false}, {full + "abcdefgh", 128, "12345678", "", false}, {full + "a", 0, "12345678", "", false},
	} {
		if got, ok := Write(c.im, c.sector, c.data); got != c.want || ok != c.ok {
			t.Errorf("%q from %d on of %q: %q %v, want %q %v", c.data, c.sector, c.im, got, ok, c.want, c.ok)
		}
	}
}

// P19.3: only four bytes of one sector change, and what Half rejects.
func TestHalf(t *testing.T) {
	const three = "aaaaAAAAbbbbBBBBccccCCCC"
	full := strings.Repeat("x", 1024)
	for _, c := range []writeCase{
		{three, 0, "12345678", "1234AAAAbbbbBBBBccccCCCC", true}, {three, 1, "12345678", "aaaaAAAA1234BBBBccccCCCC", true}, {three, 2, "12345678", "aaaaAAAAbbbbBBBB1234CCCC", true}, {three, 1, "bbbb5678", three, true}, {zero, 0, "\xff\xfe\xfd\xfc\x80\x81\x82\x83", "\xff\xfe\xfd\xfc\x00\x00\x00\x00", true}, {"abcdefgh", 0, zero, "\x00\x00\x00\x00efgh", true},
		{full, 127, "12345678", full[:1016] + "1234xxxx", true}, {full, 0, "12345678", "1234" + full[4:], true},
		{three, 3, "12345678", "", false}, {three, -1, "12345678", "", false}, {"", 0, "12345678", "", false}, {full, 128, "12345678", "", false},
		{three, 0, "", "", false}, {three, 0, "1", "", false}, {three, 0, "1234", "", false}, {three, 0, "1234567", "", false}, {three, 0, "123456789", "", false}, {three, 0, "123456789abc", "", false}, {three, 0, "1234567812345678", "", false}, {three, 0, three, "", false}, {three, 0, "\u00e4\u00f6\u00fc\u00df\u00c4\u00d6\u00dc\u00e9", "", false},
		{three[:23], 0, "12345678", "", false}, {three + "d", 0, "12345678", "", false}, {"abcd", 0, "12345678", "", false}, {full + "abcdefgh", 0, "12345678", "", false}, {full + "abcdefgh", 128, "12345678", "", false}, {full + "a", 0, "12345678", "", false},
	} {
		if got, ok := Half(c.im, c.sector, c.data); got != c.want || ok != c.ok {
			t.Errorf("%q at %d of %q: %q %v, want %q %v", c.data, c.sector, c.im, got, ok, c.want, c.ok)
		}
	}
}

// P19.3: data of all lengths at all sectors of images of all kinds, right or not, and at numbers that are far from them.
func TestWriteAll(t *testing.T) {
	for _, im := range slices.Concat(images(), badImages()) {
		for _, first := range numbersFor(im) {
			for n := range 50 {
				expectWrite(t, im, first, text('k', n))
				expectHalf(t, im, first, text('k', n))
			}
			for _, n := range []int{1008, 1015, 1016, 1023, 1024, 1025, 1032} {
				expectWrite(t, im, first, text('k', n))
				expectHalf(t, im, first, text('k', n))
			}
		}
	}
}

// P19.3: data of each number of sectors at each sector of the greatest image.
func TestWriteWhole(t *testing.T) {
	whole, data := text('0', 1024), text('k', 1024)
	for first := range 129 {
		for count := 1; count <= 128; count += 1 + count/9 {
			expectWrite(t, whole, first, data[:count*bytesOfSector])
		}
		expectWrite(t, whole, first, data[:(128-first)*bytesOfSector])
		expectHalf(t, whole, first, data[:bytesOfSector])
	}
}

// P19.4: the sectors that differ, by any of their bytes, and images that cannot be compared.
func TestDiff(t *testing.T) {
	const three = "aaaaAAAAbbbbBBBBccccCCCC"
	full := strings.Repeat("x", 1024)
	all := make([]int, 128)
	for n := range all {
		all[n] = n
	}
	for _, c := range []struct {
		a, b string
		want []int
	}{
		{three, three, nil}, {"", "", nil}, {full, full, nil},
		{three, "AaaaAAAAbbbbBBBBccccCCCC", []int{0}}, {three, "aaaaAAAabbbbBBBBccccCCCC", []int{0}}, {three, "aaaaAAAABbbbBBBBccccCCCC", []int{1}}, {three, "aaaaAAAAbbbbBBBBccccCCCc", []int{2}}, {three, "aaaaAAAabbbbBBBBCcccCCCC", []int{0, 2}}, {three, "1aaaAAAAb1bbBBBBccccCC1C", []int{0, 1, 2}}, {three, Zero(3), []int{0, 1, 2}}, {three, "ccccCCCCbbbbBBBBaaaaAAAA", []int{0, 2}},
		{full, full[:1023] + "y", []int{127}}, {full, "y" + full[:1023], []int{0}}, {full, Zero(128), all},
		{three, three[:16], nil}, {three, three[8:], nil}, {three, "", nil}, {"", zero, nil}, {three, three + zero, nil}, {full, full[:1016], nil},
		{"abcd", "abcd", nil}, {"abcd", "ABCD", nil}, {three[:23], Zero(3)[:23], nil}, {three + "d", three + "e", nil}, {full + zero, zero + full, nil}, {full + "abcdefgh", Zero(128) + zero, nil}, {full + "a", zero + full[7:], nil}, {three, three[:23], nil}, {three, "abcd", nil}, {full, full + "a", nil}, {full, full + zero, nil},
	} {
		if got := Diff(c.a, c.b); !slices.Equal(got, c.want) {
			t.Errorf("%q and %q: %v, want %v", c.a, c.b, got, c.want)
		}
		if got := Diff(c.b, c.a); !slices.Equal(got, c.want) {
			t.Errorf("%q and %q: %v, want %v", c.b, c.a, got, c.want)
		}
	}
}

// P19.4: all pairs of images of all kinds, right or not, and each bit of a sector.
func TestDiffAll(t *testing.T) {
	l := slices.Concat(images(), badImages())
	for _, a := range l {
		for _, b := range l {
			expectDiff(t, a, b)
		}
		expectDiff(t, a, strings.Map(func(r rune) rune { return r ^ 1 }, a))
	}
	im := text('a', 5*bytesOfSector)
	for i := range len(im) {
		for bit := range 8 {
			b := []byte(im)
			b[i] ^= 1 << bit
			if got := Diff(im, string(b)); !slices.Equal(got, []int{i / bytesOfSector}) {
				t.Errorf("the byte %d and the bit %d: %v", i, bit, got)
			}
		}
	}
}

// P19.4: all sets of sectors that can differ in images of eight sectors.
func TestDiffSets(t *testing.T) {
	im := text('a', 8*bytesOfSector)
	for set := range 256 {
		b, want := []byte(im), []int(nil)
		for n := range 8 {
			if set>>n&1 == 1 {
				b[n*bytesOfSector+(set+n)%bytesOfSector]++
				want = append(want, n)
			}
		}
		if got := Diff(im, string(b)); !slices.Equal(got, want) {
			t.Errorf("the set %d: %v, want %v", set, got, want)
		}
	}
}

// R2: a list of Diff belongs to its caller alone.
func TestDiffOwn(t *testing.T) {
	a, b := Zero(3), "11111111"+"22222222"+"33333333"
	first := Diff(a, b)
	first[0], first[1], first[2] = math.MaxInt, -1, 7
	if again := Diff(a, b); !slices.Equal(again, []int{0, 1, 2}) {
		t.Errorf("%v", again)
	}
}
