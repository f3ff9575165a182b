package phase

import (
	"errors"
	"math"
	"slices"
	"testing"

	"cartage/api"
)

// The events, as methods of values.
var events = map[string]func(Phase, int) (Phase, error){
	"Stage": Phase.Stage,
	"Open":  Phase.Open,
	"Fence": Phase.Fence,
	"Tomb":  Phase.Tomb,
	"Drop":  func(p Phase, _ int) (Phase, error) { return p.Drop() },
}

var eventNames = []string{"Stage", "Open", "Fence", "Tomb", "Drop"}

// row is a line of the chapter's table, its states as their numbers.
type row struct {
	event string
	from  []int
	fits  string // what the event's epoch must be, held against the phase's
	to    int
}

var table = []row{
	{"Stage", []int{0, 4, 5}, "at least", 1},
	{"Stage", []int{1, 3}, "above", 1},
	{"Open", []int{1, 3, 2}, "above", 2},
	{"Open", []int{0}, "from 1 on", 2},
	{"Fence", []int{2}, "is", 3},
	{"Tomb", []int{1, 3, 2, 4}, "above", 4},
	{"Drop", []int{4}, "any", 5},
}

func (r row) has(epoch, e int) bool {
	switch r.fits {
	case "at least":
		return e >= epoch
	case "above":
		return e > epoch
	case "from 1 on":
		return e >= 1
	case "is":
		return e == epoch
	}
	return r.fits == "any"
}

// plainRight goes by the cases.
func plainRight(p Phase) bool {
	switch p.State {
	case 0:
		return p.Epoch == 0
	case 1, 2, 3, 4, 5:
		return p.Epoch > 0 && p.Epoch < 1<<40+1
	}
	return false
}

// plainTurn looks an event up in the table, and asks what is wrong in the chapter's order.
func plainTurn(event string, p Phase, e int) (Phase, error) {
	if event != "Drop" && (e < 1 || e > 1<<40) {
		return p, api.ErrRange
	}
	if !plainRight(p) {
		return p, api.ErrForm
	}
	at := slices.IndexFunc(table, func(r row) bool { return r.event == event && slices.Contains(r.from, p.State) })
	if at < 0 {
		return p, api.ErrState
	}
	if !table[at].has(p.Epoch, e) {
		return p, api.ErrStale
	}
	if event == "Drop" {
		e = p.Epoch
	}
	return Phase{table[at].to, e}, nil
}

// plainAdmit goes by the chapter's sentences, one after the other.
func plainAdmit(p Phase, stamp int) error {
	if !plainRight(p) {
		return api.ErrDown
	}
	var served, stale bool
	switch p.State {
	case 2:
		served, stale = stamp == p.Epoch, stamp < p.Epoch
	case 4, 5:
		stale = stamp <= p.Epoch
	default:
		stale = stamp < p.Epoch
	}
	switch {
	case served:
		return nil
	case stale:
		return api.ErrStale
	}
	return api.ErrDown
}

func sameError(a, b error) bool {
	return a == nil && b == nil || a != nil && b != nil && errors.Is(a, b)
}

// states are the six, and others: the nearest ones, and some whose low bits are those of the six.
func states() []int {
	list := []int{math.MinInt, -1 << 32, -256, -2, -1, 6, 7, 8, 255, 256, math.MaxInt}
	for state := range 6 {
		list = append(list, state, 1<<8+state, 1<<32+state, -1<<40+state)
	}
	return list
}

// epochs are the edges of all that is asked of one.
func epochs() []int {
	list := []int{math.MinInt, math.MinInt + 1, -1 << 40, -2, -1, 1 << 31, 1 << 32, 1<<41 - 1, 1 << 41, math.MaxInt - 1, math.MaxInt}
	for k := range 6 {
		list = append(list, k, 1<<40-3+k)
	}
	return list
}

// phases are all of these states with all of these epochs.
func phases() []Phase {
	var list []Phase
	for _, state := range states() {
		for _, epoch := range epochs() {
			list = append(list, Phase{state, epoch})
		}
	}
	return list
}

// turn does an event, which must come to what the plain one says.
func turn(t *testing.T, event string, p Phase, e int) (Phase, error) {
	t.Helper()
	want, fault := plainTurn(event, p, e)
	got, err := events[event](p, e)
	if got != want || !sameError(err, fault) {
		t.Fatalf("%v, %s %d: %v, %v, not %v, %v", p, event, e, got, err, want, fault)
	}
	return got, err
}

// admitted asks a stamp, which must be answered what the plain one says.
func admitted(t *testing.T, p Phase, stamp int) bool {
	t.Helper()
	want := plainAdmit(p, stamp)
	got := p.Admit(stamp)
	if !sameError(got, want) {
		t.Fatalf("%v, Admit %d: %v, not %v", p, stamp, got, want)
	}
	return got == nil
}

// chance is numbers that are made up, the same each time.
type chance struct{ x uint64 }

func (c *chance) below(n int) int {
	c.x = c.x*6364136223846793005 + 1442695040888963407
	return int((c.x >> 20) % uint64(n))
}
