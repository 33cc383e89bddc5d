package layout

import "pagecache/api"

// isSpan reports whether a span has sectors, and all of them can be on a device. Its end is not computed, because the sum may overflow.
func isSpan(x api.Span) bool {
	return isWithin(x.Sector, api.MaxSectors-1) && x.Count > 0 && x.Count <= api.MaxSectors-x.Sector
}

// joined returns the sectors of those of the pages that exist, ascending, each once; a span ends only where the next page is left out.
func joined(slot int, pages []int) []api.Span {
	var spans []api.Span
	for page, has := range chosen(pages) {
		if has {
			spans = withPage(spans, PageSector(slot, page))
		}
	}
	return spans
}

// chosen tells of each page of a file whether it is in a list.
func chosen(pages []int) [api.MaxPages]bool {
	var has [api.MaxPages]bool
	for _, page := range pages {
		if isPage(page) {
			has[page] = true
		}
	}
	return has
}

// withPage returns spans with the page that begins at a sector: the last one grows by it if it ends there. The slices that are appended to have no capacity left, so that append copies them, and the spans that are given stay as they are.
func withPage(spans []api.Span, sector int) []api.Span {
	n := len(spans)
	if n == 0 || spans[n-1].Sector+spans[n-1].Count != sector {
		return append(spans[:n:n], api.Span{Sector: sector, Count: api.PageSectors})
	}
	last := spans[n-1]
	last.Count += api.PageSectors
	return append(spans[:n-1:n-1], last)
}

// appendParts appends the parts of a span, of which all but the last one have most sectors.
func appendParts(parts []api.Span, x api.Span, most int) []api.Span {
	for x.Count > 0 {
		n := min(x.Count, most)
		parts = append(parts, api.Span{Sector: x.Sector, Count: n})
		x.Sector += n
		x.Count -= n
	}
	return parts
}
