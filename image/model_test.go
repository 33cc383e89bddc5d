package image

import (
	"math"
	"slices"
	"testing"
)

// The limits, as the document says them.
const (
	bytesOfSector = 8
	mostSectors   = 128
)

// farNumbers are numbers of no sector; some are 0, 1 or 128 when they are multiplied by 8 and cut to an int.
var farNumbers = []int{
	math.MaxInt, math.MaxInt - 1, math.MaxInt - 7, math.MaxInt - 128, math.MaxInt / 8, math.MaxInt/8 + 1, 1 << 60, 1 << 61, 1<<61 + 1, 1<<61 + 16, 1 << 62, 1<<62 + 1, 1 << 32, 1<<32 + 1, 1 << 31,
	math.MinInt, math.MinInt + 1, math.MinInt + 8, math.MinInt + 128, math.MinInt / 8, math.MinInt/8 - 1, -(1 << 61), -(1 << 61) + 1, -(1 << 61) + 16, -(1 << 62), -(1 << 32), -(1 << 31), -1024, -128, -8,
}

// sector is the bytes of a sector.
type sector [bytesOfSector]byte

// text returns bytes that differ from sector to sector, beginning with the first one of a row of letters.
func text(first byte, n int) string {
	b := make([]byte, n)
	for i := range b {
		b[i] = first + byte(i/bytesOfSector*11+i%bytesOfSector)
	}
	return string(b)
}

// images are images of all kinds: small ones of each size, the greatest ones, and some with bytes of each value.
func images() []string {
	l := []string{"\x00\x00\x00\x00\x00\x00\x00\x00", "\xff\xfe\xfd\xfc\x80\x81\x82\x83", "\u00e4\u00f6\u00fc\u00df\u00c4\u00d6\u00dc\u00e9", "abcdefghabcdefgh"}
	for n := range 7 {
		l = append(l, text('A', n*bytesOfSector))
	}
	return append(l, text('a', 127*bytesOfSector), text('0', 128*bytesOfSector))
}

// badImages have a part of a sector, or too many sectors.
func badImages() []string {
	var l []string
	for n := range 40 {
		if n%bytesOfSector != 0 {
			l = append(l, text('A', n))
		}
	}
	l = append(l, "\u00e4\u00f6\u00fc\u00df\u00c4\u00d6\u00dcu")
	for _, n := range []int{1016 - 1, 1016 + 1, 1024 - 4, 1024 - 1, 1024 + 1, 1024 + 7, 1024 + 8, 1024 + 9, 1024 + 16, 2048, 1024 * 8, 1 << 16, 1<<16 + 8, 1<<16 + 1024} {
		l = append(l, text('A', n))
	}
	return l
}

// numbersFor returns numbers in and beside the first and the last sectors of an image, and ones that are far from them.
func numbersFor(im string) []int {
	last := len(im) / bytesOfSector
	l := slices.Concat([]int{-3, -2, -1, 0, 1, 2, 3, 4, last - 3, last - 2, last - 1, last, last + 1, last + 2, 126, 127, 128, 129}, farNumbers)
	slices.Sort(l)
	return slices.Compact(l)
}

// split returns the sectors of an image, and whether it is one, byte by byte.
func split(im string) ([]sector, bool) {
	var l []sector
	for i := range len(im) {
		if i%bytesOfSector == 0 {
			l = append(l, sector{})
		}
		l[i/bytesOfSector][i%bytesOfSector] = im[i]
	}
	whole := len(im) == len(l)*bytesOfSector
	return l, whole && len(l) <= mostSectors
}

// join is the other way round.
func join(l []sector) string {
	var b []byte
	for _, s := range l {
		b = append(b, s[:]...)
	}
	return string(b)
}

// isIn reports whether there is a sector with this number.
func isIn(l []sector, number int) bool {
	for n := range l {
		if n == number {
			return true
		}
	}
	return false
}

// modelRead reads sector by sector until one does not exist.
func modelRead(im string, first, count int) (string, bool) {
	l, ok := split(im)
	if !ok || count < 1 {
		return "", false
	}
	var read []sector
	for number := first; len(read) < count; number++ {
		if !isIn(l, number) {
			return "", false
		}
		read = append(read, l[number])
	}
	return join(read), true
}

// modelWrite writes sector by sector, and of each one just the bytes ahead of upTo.
func modelWrite(im string, first int, data string, upTo int) (string, bool) {
	l, ok := split(im)
	if !ok || data == "" || len(data)%bytesOfSector != 0 {
		return "", false
	}
	for i := 0; i < len(data); i += bytesOfSector {
		number := first + i/bytesOfSector
		if !isIn(l, number) {
			return "", false
		}
		copy(l[number][:upTo], data[i:i+upTo])
	}
	return join(l), true
}

// modelDiff compares sector by sector.
func modelDiff(a, b string) []int {
	l, ok := split(a)
	m, right := split(b)
	if !ok || !right || len(l) != len(m) {
		return nil
	}
	var differ []int
	for n := range l {
		if l[n] != m[n] {
			differ = append(differ, n)
		}
	}
	return differ
}

func expectValid(t *testing.T, im string) {
	t.Helper()
	if _, want := split(im); Valid(im) != want {
		t.Errorf("Valid of %d bytes: %v", len(im), !want)
	}
}

func expectRead(t *testing.T, im string, first, count int) {
	t.Helper()
	want, ok := modelRead(im, first, count)
	if got, found := Read(im, first, count); got != want || found != ok {
		t.Errorf("Read of %d sectors from %d on of %q: %q %v, want %q %v", count, first, im, got, found, want, ok)
	}
}

func expectWrite(t *testing.T, im string, first int, data string) {
	t.Helper()
	want, ok := modelWrite(im, first, data, bytesOfSector)
	if got, found := Write(im, first, data); got != want || found != ok {
		t.Errorf("Write of %q from %d on to %q: %q %v, want %q %v", data, first, im, got, found, want, ok)
	}
}

func expectHalf(t *testing.T, im string, number int, data string) {
	t.Helper()
	want, ok := "", false
	if len(data) == bytesOfSector {
		want, ok = modelWrite(im, number, data, bytesOfSector/2)
	}
	if got, found := Half(im, number, data); got != want || found != ok {
		t.Errorf("Half of %q at %d of %q: %q %v, want %q %v", data, number, im, got, found, want, ok)
	}
}

func expectDiff(t *testing.T, a, b string) {
	t.Helper()
	want := modelDiff(a, b)
	if got := Diff(a, b); !slices.Equal(got, want) {
		t.Errorf("Diff of %q and %q: %v, want %v", a, b, got, want)
	}
}
