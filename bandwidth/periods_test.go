package bandwidth

import (
	"math/rand"
	"testing"

	"pagecache/api"
)

// noteAll notes pages at now, as many as may be at once in each note.
func noteAll(t *testing.T, m api.Measure, now, pages int) api.Measure {
	t.Helper()
	for {
		part := min(pages, mostPages)
		next, err := Note(m, now, part)
		if err != api.OK {
			t.Fatalf("%d pages at %d to %+v: %d", part, now, m, int(err))
		}
		m, pages = next, pages-part
		if pages == 0 {
			return m
		}
	}
}

// endPeriod completes pages in a period of some ticks, the last of them at its end.
func endPeriod(t *testing.T, m api.Measure, ticks, pages int) api.Measure {
	t.Helper()
	end := m.Stamp + ticks
	last := min(pages, mostPages)
	next := noteAll(t, m, m.Stamp+15, pages-last)
	if next.Avg != m.Avg || next.Done != m.Done+pages-last {
		t.Fatalf("%d pages in less than a period: %+v became %+v", pages-last, m, next)
	}
	next = noteAll(t, next, end, last)
	if next.Stamp != end || next.Done != 0 {
		t.Fatalf("a period of %d ticks: %+v became %+v", ticks, m, next)
	}
	return next
}

// expectCloser expects the first consequence of a period at a constant speed: the rest of a rounding is at most 3 below the speed, and nothing above it.
func expectCloser(t *testing.T, before, after api.Measure, speed int) {
	t.Helper()
	was, is := before.Avg-speed, after.Avg-speed
	switch {
	case was > 0 && (is < 0 || is >= was):
		t.Fatalf("the speed %d: %+v became %+v", speed, before, after)
	case was < -3 && (is > 0 || is <= was):
		t.Fatalf("the speed %d: %+v became %+v", speed, before, after)
	case was <= 0 && was >= -3 && is != was:
		t.Fatalf("the speed %d: %+v became %+v", speed, before, after)
	}
}

// Consequences: at a constant speed the rate comes closer in each period, never crosses it, and arrives.
func TestConstantSpeed(t *testing.T) {
	for _, ticks := range []int{16, 17, 31, 100, 255, 256, 257, 1000} {
		for _, pages := range []int{0, 1, 2, 15, 16, 17, 63, 64, 65, 100, 256, 1000} {
			speed := pages * 256 / ticks
			for _, avg := range append(speeds(), speed, speed+1, speed+2, speed+4, max(speed-1, 0), max(speed-3, 0), max(speed-4, 0), max(speed-5, 0)) {
				m := measure(avg, 0, 0)
				for range 90 {
					next := endPeriod(t, m, ticks, pages)
					expectCloser(t, m, next, speed)
					expectRate(t, next, max(next.Avg, 1))
					m = next
				}
				if m.Avg > speed || m.Avg < speed-3 {
					t.Errorf("%d pages in each %d ticks, from %d: %d, want %d", pages, ticks, avg, m.Avg, speed)
				}
			}
		}
	}
}

// Consequences: a device that stands still comes to the rate 1, and a device that goes on again is measured again.
func TestStandstill(t *testing.T) {
	m, _ := Start(0)
	for range 40 {
		m = endPeriod(t, m, 16, 0)
	}
	if m.Avg != 0 {
		t.Errorf("%+v", m)
	}
	expectRate(t, m, 1)
	m = endPeriod(t, m, 16, 16)
	expectRate(t, m, 64)
}

// Consequences: the average is between the least and the greatest of what it averages.
func TestBetween(t *testing.T) {
	r := rand.New(rand.NewSource(121))
	for range 200000 {
		m := measure(r.Intn(most+1)>>r.Intn(29), r.Intn(lastTick-15), r.Intn(most+1)>>r.Intn(29))
		ticks := min(16+r.Intn(1000000)>>r.Intn(21), lastTick-m.Stamp)
		pages := r.Intn(mostPages + 1)
		next, err := Note(m, m.Stamp+ticks, pages)
		speed := min(m.Done+pages, most) * 256 / ticks
		if err != api.OK || next.Avg < min(m.Avg, speed) || next.Avg > max(m.Avg, speed) {
			t.Fatalf("%d pages to %+v after %d ticks, a speed of %d: %+v %d", pages, m, ticks, speed, next, int(err))
		}
	}
}

// P12.2: how the pages of a period are divided among notes makes no difference, and nor does when they are noted.
func TestNotesOfPeriod(t *testing.T) {
	r := rand.New(rand.NewSource(122))
	for range 2000 {
		start := measure(r.Intn(2000), r.Intn(1000), 0)
		m, now, total := start, start.Stamp, 0
		for now < start.Stamp+15 {
			pages := r.Intn(mostPages + 1)
			m = expectNote(t, m, now, pages)
			total += pages
			now += r.Intn(3)
		}
		end := start.Stamp + 16 + r.Intn(50)
		m = noteAll(t, m, end, 0)
		want := measure((3*start.Avg+total*256/(end-start.Stamp))/4, end, 0)
		if m != want {
			t.Fatalf("%d pages by %d to %+v: %+v, want %+v", total, end, start, m, want)
		}
	}
}
