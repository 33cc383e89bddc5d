package dirty

import (
	"math/rand"
	"slices"
	"testing"

	"pagecache/api"
)

// expectShares expects the consequences for all limits: each share is from 5 (or the limit, if that is less) to the limit, a device with more events has no lesser share, a greater limit means no lesser share, and the shares together are at most the limit and 5 for each further device.
func expectShares(t *testing.T, p api.Proportions) {
	t.Helper()
	before := make([]int, len(p.Events))
	for limit := range mostFrames + 1 {
		shares, together := make([]int, len(p.Events)), 0
		for device := range p.Events {
			share := Share(p, device, limit)
			if share < min(limit, 5) || share > limit || share < before[device] {
				t.Fatalf("%+v: device %d has %d of %d", p, device, share, limit)
			}
			shares[device] = share
			together += share
		}
		for a, more := range p.Events {
			for b, less := range p.Events {
				if more >= less && shares[a] < shares[b] {
					t.Fatalf("%+v: the shares of %d are %v", p, limit, shares)
				}
			}
		}
		if together > limit+5*(len(p.Events)-1) {
			t.Fatalf("%+v: the shares of %d are %v", p, limit, shares)
		}
		before = shares
	}
}

// Consequences: few events and many ones.
func TestShares(t *testing.T) {
	for n := range 5 * 5 * 5 * 5 {
		events := []int{n % 5, n / 5 % 5, n / 25 % 5, n / 125}
		for devices := 1; devices <= mostDevices; devices++ {
			expectShares(t, proportions(9, 3, events[:devices]...))
		}
	}
	r := rand.New(rand.NewSource(13))
	for range 3000 {
		var events []int
		for range 1 + r.Intn(mostDevices) {
			events = append(events, r.Intn(most+1)>>r.Intn(21))
		}
		expectShares(t, proportions(9, 3, events...))
	}
	for _, p := range right() {
		expectShares(t, p)
	}
}

// Consequences, and P13.2 and P13.4 together: a device that completes more than another one in each period has no lesser share. Each device completes its pages of a period at once, the ones that complete most ahead of the others.
func TestSharesOfFaster(t *testing.T) {
	r := rand.New(rand.NewSource(130))
	for range 300 {
		speeds := make([]int, 1+r.Intn(mostDevices))
		for i := range speeds {
			speeds[i] = 1 + r.Intn(mostFrames)
		}
		slices.SortFunc(speeds, func(a, b int) int { return b - a })
		period := 0
		for _, s := range speeds {
			period += s
		}
		p, err := New(len(speeds), period)
		for range 30 {
			for device, pages := range speeds {
				if err != api.OK {
					t.Fatalf("%v: %d", speeds, int(err))
				}
				p, err = Complete(p, device, pages)
				shares := sharesOf(p)
				if !slices.IsSortedFunc(shares, func(a, b int) int { return b - a }) {
					t.Fatalf("devices that complete %v in a period of %d: %+v, and the shares are %v", speeds, period, p, shares)
				}
			}
			expectShares(t, p)
		}
	}
}

// sharesOf returns the shares that all devices have of the greatest limit.
func sharesOf(p api.Proportions) []int {
	var l []int
	for device := range p.Events {
		l = append(l, Share(p, device, mostFrames))
	}
	return l
}

// P13.2 and P13.4 together: what was completed long ago counts for less and less, so that a device that has stopped gives its share up to the one that goes on.
func TestSharesChange(t *testing.T) {
	p, _ := New(2, 32)
	for range 10 {
		p = expectComplete(t, p, 0, 32)
	}
	if got := sharesOf(p); !slices.Equal(got, []int{5 + 59*32/33, 5 + 59/33}) {
		t.Errorf("the device 0 alone: %+v, %v", p, got)
	}
	for range 10 {
		before := sharesOf(p)
		p = expectComplete(t, p, 1, 32)
		if now := sharesOf(p); now[0] > before[0] || now[1] < before[1] {
			t.Errorf("the device 1 alone: %v became %v", before, now)
		}
	}
	if got := sharesOf(p); !slices.Equal(got, []int{5 + 59/33, 5 + 59*32/33}) {
		t.Errorf("the device 1 alone: %+v, %v", p, got)
	}
}

// P13.2: pages of one device can be completed in one call or in several ones.
func TestCompleteInParts(t *testing.T) {
	r := rand.New(rand.NewSource(131))
	for range 20000 {
		period := 1 + r.Intn(100)
		p := proportions(period, 1+r.Intn(period), r.Intn(50), most-r.Intn(50), r.Intn(most+1))
		device, pages := r.Intn(3), r.Intn(mostFrames+1)
		part := r.Intn(pages + 1)
		whole := expectComplete(t, p, device, pages)
		parts := expectComplete(t, expectComplete(t, p, device, part), device, pages-part)
		if !same(whole, parts) {
			t.Fatalf("%d pages of device %d to %+v: %+v, and %d of them first: %+v", pages, device, p, whole, part, parts)
		}
	}
}

// P13.2 and P13.4: long rows of pages of all devices, from new proportions on.
func TestLongRows(t *testing.T) {
	r := rand.New(rand.NewSource(132))
	for devices := 1; devices <= mostDevices; devices++ {
		for _, period := range []int{1, 2, 7, 32, 64, 100, 1000, most} {
			p, err := New(devices, period)
			if err != api.OK {
				t.Fatalf("New of %d devices with %d: %d", devices, period, int(err))
			}
			for range 500 {
				p = expectComplete(t, p, r.Intn(devices), r.Intn(mostFrames+1))
				expectShare(t, p, r.Intn(devices), r.Intn(mostFrames+1))
			}
		}
	}
}

// P13.2: events arrive at their greatest number, and stay there until they are halved.
func TestMostEvents(t *testing.T) {
	p := proportions(most, most, most-40*mostFrames-5, 0)
	for range 60 {
		p = expectComplete(t, p, 0, mostFrames)
	}
	if want := proportions(most, most-60*mostFrames, most, 0); !same(p, want) {
		t.Errorf("%+v, want %+v", p, want)
	}
	p.Left = mostFrames
	if p = expectComplete(t, p, 0, mostFrames); !same(p, proportions(most, most, most/2, 0)) {
		t.Errorf("at the end of the period: %+v", p)
	}
}
