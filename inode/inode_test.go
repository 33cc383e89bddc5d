package inode

import (
	"math"
	"strings"
	"testing"

	"pagecache/api"
)

// zero is a sector of zero bytes.
const zero = "\x00\x00\x00\x00\x00\x00\x00\x00"

func node(seq, size, blocks int) api.Inode {
	return api.Inode{Seq: seq, Size: size, Blocks: blocks}
}

// sectorOf is what the chapter says of the sector of an inode, computed in whole numbers. It makes sectors also of sizes and files that there cannot be.
func sectorOf(x api.Inode, file int) string {
	var s [8]byte
	for i, b := range []int{x.Seq / 256, x.Seq % 256, x.Size, x.Blocks} {
		s[i] = byte(b)
		s[i+4] = byte(255 - (b ^ file))
	}
	return string(s[:])
}

// edges are valid inodes with numbers at and beside the edges.
func edges() []api.Inode {
	var l []api.Inode
	for _, seq := range []int{0, 1, 2, 127, 128, 254, 255, 256, 257, 511, 512, 0x1234, 0x7fff, 0x8000, 0xfeff, 0xff00, 65534, 65535} {
		for _, size := range []int{0, 1, 15, 16, 17, 63, 64, 127, 128} {
			for _, blocks := range []int{0, 1, 2, 0x55, 0x7f, 0x80, 0xaa, 254, 255} {
				l = append(l, node(seq, size, blocks))
			}
		}
	}
	return l
}

// badInodes are inodes that are not valid; the ones with great numbers would be valid if these were cut to bytes.
func badInodes() []api.Inode {
	return []api.Inode{
		node(-1, 0, 0), node(65536, 0, 0), node(65537, 16, 1), node(1<<32, 0, 0), node(math.MaxInt, 0, 0), node(math.MinInt, 0, 0), node(-65536, 16, 1),
		node(0, -1, 0), node(0, 129, 0), node(1, 255, 1), node(1, 256, 1), node(1, 257, 1), node(0, math.MaxInt, 0), node(0, math.MinInt, 0), node(0, -256, 0),
		node(0, 0, -1), node(0, 0, 256), node(1, 16, 257), node(0, 0, math.MaxInt), node(0, 0, math.MinInt), node(0, 0, -256),
		node(-1, -1, -1), node(65536, 129, 256), node(65535, 129, 0), node(65535, 0, 256), node(-1, 128, 255),
	}
}

// badFiles are numbers that no file has; some would be files if they were cut to bytes.
func badFiles() []int {
	return []int{-1, -2, -8, -256, -255, 8, 9, 15, 16, 127, 128, 255, 256, 257, 263, 1 << 32, math.MaxInt, math.MinInt}
}

// badSectors are sectors of no inode of any file.
func badSectors() []string {
	whole := sectorOf(node(1, 16, 1), 0)
	return []string{
		"", zero[:1], zero[:4], zero[:7], zero, zero + "\x00", strings.Repeat("\xff", 8), "\x00\x00\x00\x00\xff\xff\xff", "abcdefgh",
		whole[:4], whole[:7], whole[1:], whole + "\x00", whole + whole, whole[:4] + whole[:4], whole[4:] + whole[4:], strings.Repeat("\u00e4", 8),
		"\x01\x00\x00\x00\xff\xff\xff\xff", "\x00\x00\x00\x01\xff\xff\xff\xff", "\x00\x00\x00\x00\xfe\xff\xff\xff", "\x00\x00\x00\x00\xff\xff\xff\xfe",
		sectorOf(node(1, 129, 0), 0), sectorOf(node(1, 192, 0), 0), sectorOf(node(1, 255, 255), 0), sectorOf(node(65535, 129, 255), 0),
	}
}

func expectNone(t *testing.T, s string, file int) {
	t.Helper()
	if x, ok := Decode(s, file); ok || x != (api.Inode{}) {
		t.Errorf("Decode of %q for the file %d: %v %v", s, file, x, ok)
	}
}

// P3.1: some sectors in full.
func TestEncode(t *testing.T) {
	for _, c := range []struct {
		x    api.Inode
		file int
		want string
	}{
		{node(1, 16, 1), 0, string([]byte{0, 1, 16, 1, 255, 254, 239, 254})}, // example 1
		{node(0, 0, 0), 0, string([]byte{0, 0, 0, 0, 255, 255, 255, 255})},
		{node(0, 0, 0), 1, string([]byte{0, 0, 0, 0, 254, 254, 254, 254})},
		{node(0, 0, 0), 7, string([]byte{0, 0, 0, 0, 248, 248, 248, 248})},
		{node(65535, 128, 255), 0, string([]byte{255, 255, 128, 255, 0, 0, 127, 0})},
		{node(65535, 128, 255), 7, string([]byte{255, 255, 128, 255, 7, 7, 120, 7})},
		{node(255, 1, 2), 3, string([]byte{0, 255, 1, 2, 252, 3, 253, 254})},
		{node(256, 1, 2), 3, string([]byte{1, 0, 1, 2, 253, 252, 253, 254})},
		{node(0x1234, 100, 0x81), 5, string([]byte{0x12, 0x34, 100, 0x81, 0xe8, 0xce, 158, 0x7b})},
	} {
		if s, err := Encode(c.x, c.file); s != c.want || err != api.OK {
			t.Errorf("%v of the file %d: %q %v, want %q", c.x, c.file, s, err, c.want)
		}
	}
}

// P3.1 and P3.2: inodes of all files at the edges, and each number in all its values.
func TestEncodeAndDecode(t *testing.T) {
	l := edges()
	for seq := range 65536 {
		l = append(l, node(seq, 16, 1))
	}
	for size := range 129 {
		for blocks := range 256 {
			l = append(l, node(300, size, blocks))
		}
	}
	for _, x := range l {
		for file := range 8 {
			s, err := Encode(x, file)
			if s != sectorOf(x, file) || err != api.OK {
				t.Fatalf("%v of the file %d: %q %v", x, file, s, err)
			}
			if got, ok := Decode(s, file); got != x || !ok {
				t.Fatalf("%v of the file %d: decoded %v %v", x, file, got, ok)
			}
		}
	}
}

// P3.1: the errors of Encode and their order.
func TestEncodeErrors(t *testing.T) {
	for _, x := range badInodes() {
		for _, file := range append(badFiles(), 0, 1, 7) {
			if s, err := Encode(x, file); s != "" || err != api.ErrInvalid {
				t.Errorf("%v of the file %d: %q %v", x, file, s, err)
			}
		}
	}
	for _, x := range edges() {
		for _, file := range badFiles() {
			if s, err := Encode(x, file); s != "" || err != api.ErrRange {
				t.Errorf("%v of the file %d: %q %v", x, file, s, err)
			}
		}
	}
}

// P3.2: what is no sector of an inode, and what is one of a file that cannot be.
func TestDecodeNone(t *testing.T) {
	for _, s := range badSectors() {
		for _, file := range append(badFiles(), 0, 1, 2, 3, 4, 5, 6, 7) {
			expectNone(t, s, file)
		}
	}
	for _, file := range badFiles() {
		for _, x := range edges() {
			expectNone(t, sectorOf(x, file), file)
			expectNone(t, sectorOf(x, 0), file)
		}
	}
	for size := 129; size < 256; size++ {
		for file := range 8 {
			expectNone(t, sectorOf(node(1, size, 1), file), file)
		}
	}
}

// P3.2: with any one byte changed, a sector is none of its file.
func TestDecodeChanged(t *testing.T) {
	for _, x := range edges() {
		for file := range 8 {
			s := []byte(sectorOf(x, file))
			for i := range s {
				for _, change := range []byte{1, 2, 4, 8, 16, 32, 64, 128, 255} {
					s[i] ^= change
					expectNone(t, string(s), file)
					s[i] ^= change
				}
			}
		}
	}
	s := []byte(sectorOf(node(1, 16, 1), 3))
	for i := range s {
		for change := 1; change < 256; change++ {
			s[i] ^= byte(change)
			expectNone(t, string(s), 3)
			s[i] ^= byte(change)
		}
	}
}

// P3.3: the only one that can be decoded, or the one with the greater Seq.
func TestChoose(t *testing.T) {
	none := api.Inode{}
	for _, c := range []struct {
		a, b  string
		file  int
		want  api.Inode
		which int
		ok    bool
	}{
		{sectorOf(node(1, 16, 1), 0), sectorOf(node(2, 32, 3), 0), 0, node(2, 32, 3), 1, true},
		{sectorOf(node(2, 32, 3), 0), sectorOf(node(1, 16, 1), 0), 0, node(2, 32, 3), 0, true},
		{sectorOf(node(2, 0, 0), 5), sectorOf(node(1, 128, 255), 5), 5, node(2, 0, 0), 0, true},
		{sectorOf(node(255, 9, 9), 1), sectorOf(node(256, 8, 8), 1), 1, node(256, 8, 8), 1, true},
		{sectorOf(node(256, 9, 9), 1), sectorOf(node(255, 8, 8), 1), 1, node(256, 9, 9), 0, true},
		{sectorOf(node(65535, 0, 0), 7), sectorOf(node(0, 0, 0), 7), 7, node(65535, 0, 0), 0, true},
		{sectorOf(node(0, 0, 0), 7), sectorOf(node(65535, 0, 0), 7), 7, node(65535, 0, 0), 1, true},
		{sectorOf(node(4, 16, 1), 2), sectorOf(node(4, 32, 3), 2), 2, node(4, 16, 1), 0, true},
		{sectorOf(node(4, 32, 3), 2), sectorOf(node(4, 16, 1), 2), 2, node(4, 32, 3), 0, true},
		{sectorOf(node(4, 16, 1), 2), sectorOf(node(4, 16, 1), 2), 2, node(4, 16, 1), 0, true},
		{sectorOf(none, 0), sectorOf(none, 0), 0, none, 0, true},
		{sectorOf(none, 0), zero, 0, none, 0, true}, {zero, sectorOf(none, 0), 0, none, 1, true},
		{sectorOf(node(9, 16, 1), 2), sectorOf(node(8, 16, 1), 3), 3, node(8, 16, 1), 1, true},
		{sectorOf(node(8, 16, 1), 3), sectorOf(node(9, 16, 1), 2), 3, node(8, 16, 1), 0, true},
		{sectorOf(node(9, 129, 1), 0), sectorOf(node(8, 128, 1), 0), 0, node(8, 128, 1), 1, true},
		{sectorOf(node(9, 1, 1), 2), sectorOf(node(8, 1, 1), 2), 3, none, 0, false},
		{zero, zero, 0, none, 0, false}, {"", "", 0, none, 0, false},
	} {
		x, which, ok := Choose(c.a, c.b, c.file)
		if x != c.want || which != c.which || ok != c.ok {
			t.Errorf("%q and %q of the file %d: %v %d %v, want %v %d %v", c.a, c.b, c.file, x, which, ok, c.want, c.which, c.ok)
		}
	}
}

// P3.3: sectors that cannot be decoded, on each side and on both.
func TestChooseBad(t *testing.T) {
	for _, bad := range badSectors() {
		for file := range 8 {
			x := node(3, 48, 7)
			good := sectorOf(x, file)
			if got, which, ok := Choose(good, bad, file); got != x || which != 0 || !ok {
				t.Errorf("%q behind: %v %d %v", bad, got, which, ok)
			}
			if got, which, ok := Choose(bad, good, file); got != x || which != 1 || !ok {
				t.Errorf("%q in front: %v %d %v", bad, got, which, ok)
			}
			for _, other := range badSectors() {
				if got, which, ok := Choose(bad, other, file); got != (api.Inode{}) || which != 0 || ok {
					t.Errorf("%q and %q: %v %d %v", bad, other, got, which, ok)
				}
			}
		}
	}
	for _, file := range badFiles() {
		a, b := sectorOf(node(1, 16, 1), file), sectorOf(node(2, 32, 3), file)
		if got, which, ok := Choose(a, b, file); got != (api.Inode{}) || which != 0 || ok {
			t.Errorf("the file %d: %v %d %v", file, got, which, ok)
		}
	}
}

// P3.4: only Seq changes, as long as there is a greater one.
func TestNext(t *testing.T) {
	l := edges()
	for seq := range 65536 {
		l = append(l, node(seq, 128, 255))
	}
	for _, x := range l {
		got, err := Next(x)
		if x.Seq == 65535 {
			if got != (api.Inode{}) || err != api.ErrFull {
				t.Errorf("%v: %v %v, want ErrFull", x, got, err)
			}
		} else if got != node(x.Seq+1, x.Size, x.Blocks) || err != api.OK {
			t.Errorf("%v: %v %v", x, got, err)
		}
	}
}

// P3.4: the errors of Next and their order.
func TestNextErrors(t *testing.T) {
	for _, x := range badInodes() {
		if got, err := Next(x); got != (api.Inode{}) || err != api.ErrInvalid {
			t.Errorf("%v: %v %v", x, got, err)
		}
	}
}

// P3.5: one half is new, the other one is old.
func TestTorn(t *testing.T) {
	for _, c := range []struct {
		old, new    string
		first, last string
	}{
		{"abcdefgh", "ABCDEFGH", "ABCDefgh", "abcdEFGH"},
		{"ABCDEFGH", "abcdefgh", "abcdEFGH", "ABCDefgh"},
		{zero, "12345678", "1234\x00\x00\x00\x00", "\x00\x00\x00\x005678"},
		{"\xff\xfe\xfd\xfc\x80\x81\x82\x83", zero, "\x00\x00\x00\x00\x80\x81\x82\x83", "\xff\xfe\xfd\xfc\x00\x00\x00\x00"},
		{"sameboth", "sameboth", "sameboth", "sameboth"},
	} {
		if s, err := Torn(c.old, c.new, 0); s != c.first || err != api.OK {
			t.Errorf("half 0 of %q over %q: %q %v", c.new, c.old, s, err)
		}
		if s, err := Torn(c.old, c.new, 1); s != c.last || err != api.OK {
			t.Errorf("half 1 of %q over %q: %q %v", c.new, c.old, s, err)
		}
	}
}

// P3.5: the errors of Torn and their order.
func TestTornErrors(t *testing.T) {
	const right = "abcdefgh"
	halves := []int{-1, 2, 3, -2, 4, 8, math.MaxInt, math.MinInt}
	for _, half := range halves {
		if s, err := Torn(right, zero, half); s != "" || err != api.ErrRange {
			t.Errorf("half %d: %q %v", half, s, err)
		}
	}
	for _, bad := range []string{"", "a", "abcd", "abcdefg", "abcdefghi", right + right, strings.Repeat("\u00e4", 8)} {
		for _, half := range append(halves, 0, 1) {
			for _, pair := range [][2]string{{bad, right}, {right, bad}, {bad, bad}} {
				if s, err := Torn(pair[0], pair[1], half); s != "" || err != api.ErrForm {
					t.Errorf("half %d of %q over %q: %q %v", half, pair[1], pair[0], s, err)
				}
			}
		}
	}
}

// The consequence for files: a sector of one file is none of another one.
func TestOtherFiles(t *testing.T) {
	for _, x := range edges() {
		for file := range 8 {
			s, _ := Encode(x, file)
			for other := range 8 {
				if got, ok := Decode(s, other); ok != (other == file) || ok && got != x {
					t.Errorf("%v of the file %d for the file %d: %v %v", x, file, other, got, ok)
				}
			}
		}
	}
}

// The consequence for tears: a torn sector that can be decoded has an inode that is the old and the new one.
func TestTornDecoded(t *testing.T) {
	l := edges()
	for i, old := range l {
		for k := i; k < len(l); k += 7 {
			for half := range 2 {
				a, _ := Encode(old, i%8)
				b, _ := Encode(l[k], i%8)
				s, err := Torn(a, b, half)
				x, ok := Decode(s, i%8)
				if err != api.OK || ok != (i == k) || ok && x != old {
					t.Errorf("half %d of %v over %v: %v %v %v", half, l[k], old, x, ok, err)
				}
			}
		}
	}
}
