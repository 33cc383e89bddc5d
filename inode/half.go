package inode

import "pagecache/api"

const halfBytes = api.SectorBytes / 2

// halfSector is one half of a sector: the first one has the content of an inode, the second one guards it. A tear leaves halves of two sectors, whose guard fits only if both have the same content.
type halfSector [halfBytes]byte

// contentOf returns the first half of the sector of a valid inode.
func contentOf(x api.Inode) halfSector {
	return halfSector{byte(x.Seq / 256), byte(x.Seq % 256), byte(x.Size), byte(x.Blocks)}
}

// halvesOf returns both halves of a sector.
func halvesOf(s string) (content, guard halfSector) {
	return halfSector([]byte(s[:halfBytes])), halfSector([]byte(s[halfBytes:]))
}

// inode returns the inode that has this content. It need not be valid, for a byte has room for sizes above the greatest one.
func (h halfSector) inode() api.Inode {
	return api.Inode{Seq: int(h[0])*256 + int(h[1]), Size: int(h[2]), Blocks: int(h[3])}
}

// guardFor returns the second half of the sector with this content. It depends on the file, so that a sector that was written to a wrong place is not taken for one of the file there.
func (h halfSector) guardFor(file int) halfSector {
	for i, x := range h {
		h[i] = 255 - (x ^ byte(file))
	}
	return h
}
