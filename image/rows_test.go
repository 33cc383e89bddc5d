package image

import (
	"math/rand"
	"slices"
	"testing"
)

// writes are numbers of sectors, beginning at a sector, that an image of n sectors has.
func writes(n int) [][2]int {
	var l [][2]int
	for first := range n {
		for count := 1; first+count <= n; count++ {
			l = append(l, [2]int{first, count})
		}
	}
	return l
}

// expectOthers expects two images to be of the same length, and to differ in none but count sectors from first on.
func expectOthers(t *testing.T, old, im string, first, count int) {
	t.Helper()
	if len(old) != len(im) || !Valid(im) {
		t.Fatalf("%q became %q", old, im)
	}
	for n := range len(old) / bytesOfSector {
		before, _ := Read(old, n, 1)
		if behind, ok := Read(im, n, 1); !ok || before != behind && (n < first || n >= first+count) {
			t.Errorf("the sector %d changed from %q to %q", n, before, behind)
		}
	}
	for _, n := range Diff(old, im) {
		if n < first || n >= first+count {
			t.Errorf("the sector %d is among the changed ones", n)
		}
	}
}

// P19.5: reading what was written gives the data, and other sectors do not change.
func TestReadBehindWrite(t *testing.T) {
	for n := 1; n <= 7; n++ {
		for _, w := range writes(n) {
			for _, letter := range []byte{'A', 'k', 0, 0xf0} {
				old, data := text('A', n*bytesOfSector), text(letter, w[1]*bytesOfSector)
				im, ok := Write(old, w[0], data)
				if got, found := Read(im, w[0], w[1]); got != data || !ok || !found {
					t.Errorf("%v: %q, %v and %v, want %q", w, got, ok, found, data)
				}
				expectOthers(t, old, im, w[0], w[1])
			}
		}
	}
}

// P19.5: writing what is there changes nothing.
func TestWriteSame(t *testing.T) {
	for _, im := range images() {
		for _, w := range writes(min(len(im)/bytesOfSector, 7)) {
			data, _ := Read(im, w[0], w[1])
			if got, ok := Write(im, w[0], data); got != im || !ok || len(Diff(im, got)) > 0 {
				t.Errorf("%v of %q: %q %v", w, im, got, ok)
			}
			if got, ok := Half(im, w[0], data[:bytesOfSector]); got != im || !ok {
				t.Errorf("half of %d of %q: %q %v", w[0], im, got, ok)
			}
		}
	}
}

// P19.5: Half and then Write of the same data is Write; and behind Write, Half of the same data changes nothing.
func TestHalfAndWrite(t *testing.T) {
	for _, im := range images() {
		for n := range len(im) / bytesOfSector {
			data := text(byte(3*n), bytesOfSector)
			half, ok := Half(im, n, data)
			expectOthers(t, im, half, n, 1)
			both, found := Write(half, n, data)
			want, right := Write(im, n, data)
			if both != want || !ok || !found || !right {
				t.Errorf("the sector %d of %q: %q and %q", n, im, both, want)
			}
			if again, ok := Half(both, n, data); again != both || !ok {
				t.Errorf("the sector %d of %q once more: %q", n, both, again)
			}
		}
	}
}

// expectSectors expects to read the sectors of the model from an image.
func expectSectors(t *testing.T, im string, l []sector, first, count int) {
	t.Helper()
	want := join(l[first : first+count])
	if got, ok := Read(im, first, count); got != want || !ok {
		t.Fatalf("%d sectors from %d on: %q %v, want %q", count, first, got, ok, want)
	}
}

// P19.2 to P19.5: long rows of writes and halves of writes, some of which do not fit, with a list of sectors that is changed beside them.
func TestRows(t *testing.T) {
	r := rand.New(rand.NewSource(19))
	for _, n := range []int{1, 2, 3, 8, 31, 127, 128} {
		im, l := Zero(n), make([]sector, n)
		zeros := join(l)
		for range 400 {
			first, count := r.Intn(n+2)-1, 1+r.Intn(3)
			half := r.Intn(3) == 0
			data, upTo := text(byte(r.Intn(256)), count*bytesOfSector), bytesOfSector
			write := Write
			if half {
				write, upTo = Half, bytesOfSector/2
			}
			next, ok := write(im, first, data)
			fits := first >= 0 && first+count <= n && (count == 1 || !half)
			if ok != fits || !fits && next != "" {
				t.Fatalf("%d sectors from %d on of %d: %q %v", count, first, n, next, ok)
			}
			if !fits {
				continue
			}
			for i := range count {
				copy(l[first+i][:upTo], data[i*bytesOfSector:])
			}
			im = next
			expectSectors(t, im, l, first, count)
			expectSectors(t, im, l, 0, n)
			if got, want := Diff(zeros, im), modelDiff(zeros, join(l)); !slices.Equal(got, want) {
				t.Fatalf("%v differ, want %v", got, want)
			}
		}
	}
}
