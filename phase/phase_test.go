package phase

import (
	"math"
	"slices"
	"testing"

	"cartage/api"
)

func TestExample(t *testing.T) {
	p := Phase{Serving, 3}
	fenced, err := p.Fence(3)
	if fenced != (Phase{Fenced, 3}) || err != nil {
		t.Errorf("Fence 3: %v, %v", fenced, err)
	}
	if next, err := fenced.Open(3); next != fenced || !sameError(err, api.ErrStale) {
		t.Errorf("Open 3: %v, %v", next, err)
	}
	if next, err := fenced.Open(4); next != (Phase{Serving, 4}) || err != nil {
		t.Errorf("Open 4: %v, %v", next, err)
	}
}

func TestStates(t *testing.T) {
	for number, state := range []int{Absent, Staging, Serving, Fenced, Tombed, Gone} {
		if state != number {
			t.Errorf("state %d is %d", number, state)
		}
	}
	if (Phase{}) != (Phase{State: Absent, Epoch: 0}) {
		t.Error("what was never there isn't Absent 0")
	}
}

func TestRight(t *testing.T) {
	for what, p := range map[string]Phase{
		"absent":            {Absent, 0},
		"the first epoch":   {Staging, 1},
		"served by 1":       {Serving, 1},
		"fenced":            {Fenced, 7},
		"tombed":            {Tombed, 1 << 32},
		"gone":              {Gone, 1<<40 - 1},
		"the last epoch":    {Gone, 1 << 40},
		"served by the end": {Serving, api.MaxEpoch},
	} {
		if !Right(p) {
			t.Errorf("%s: %v isn't right", what, p)
		}
	}
	for what, p := range map[string]Phase{
		"absent by an epoch":       {Absent, 1},
		"absent by the last one":   {Absent, 1 << 40},
		"absent below nought":      {Absent, -1},
		"staging by none":          {Staging, 0},
		"serving by none":          {Serving, 0},
		"fenced by none":           {Fenced, 0},
		"tombed by none":           {Tombed, 0},
		"gone by none":             {Gone, 0},
		"below nought":             {Serving, -1},
		"far below nought":         {Serving, math.MinInt},
		"one more than the last":   {Serving, 1<<40 + 1},
		"far beyond":               {Gone, math.MaxInt},
		"a state below all":        {-1, 1},
		"one below, with no epoch": {-1, 0},
		"a state above all":        {6, 1},
		"one above, with no epoch": {6, 0},
		"the last state":           {math.MaxInt, 1},
		"the first state":          {math.MinInt, 1},
		"a byte more":              {1<<8 + Serving, 1},
	} {
		if Right(p) {
			t.Errorf("%s: %v is right", what, p)
		}
	}
	for _, p := range phases() {
		if Right(p) != plainRight(p) {
			t.Errorf("%v: %v", p, Right(p))
		}
	}
}

// written is what each event with the epochs 4, 5 and 6 comes to, by the states: phases, whose epoch is 5 (of Absent 0). A number is the state that it is then; s stands for ErrStale, x for ErrState.
var written = map[string][6]string{
	//        0      1      2      3      4      5
	"Stage": {"111", "ss1", "xxx", "ss1", "s11", "s11"},
	"Open":  {"222", "ss2", "ss2", "ss2", "xxx", "xxx"},
	"Fence": {"xxx", "xxx", "s3s", "xxx", "xxx", "xxx"},
	"Tomb":  {"xxx", "ss4", "ss4", "ss4", "ss4", "xxx"},
	"Drop":  {"xxx", "xxx", "xxx", "xxx", "555", "xxx"},
}

func TestEventsWrittenOut(t *testing.T) {
	for _, event := range eventNames {
		for state, signs := range written[event] {
			for k, sign := range signs {
				p, e := Phase{state, 5}, 4+k
				if state == Absent {
					p.Epoch = 0
				}
				want, fault := p, error(nil)
				switch {
				case sign == 's':
					fault = api.ErrStale
				case sign == 'x':
					fault = api.ErrState
				case event == "Drop":
					want.State = int(sign - '0')
				default:
					want = Phase{int(sign - '0'), e}
				}
				if got, err := events[event](p, e); got != want || !sameError(err, fault) {
					t.Errorf("%v, %s %d: %v, %v, not %v, %v", p, event, e, got, err, want, fault)
				}
			}
		}
	}
}

// All phases, right and wrong, and all epochs.
func TestEachEventOfEachPhase(t *testing.T) {
	for _, p := range phases() {
		for _, event := range eventNames {
			for _, e := range epochs() {
				turn(t, event, p, e)
			}
			for near := -2; near <= 2; near++ {
				turn(t, event, p, p.Epoch+near)
			}
		}
	}
}

// Epochs that aren't from 1 to the last one are told ahead of all else, by all events but Drop.
func TestEpochsOutOfRange(t *testing.T) {
	for _, e := range []int{0, -1, -5, math.MinInt, 1<<40 + 1, 1<<40 + 5, math.MaxInt} {
		for _, p := range []Phase{{Absent, 0}, {Staging, 5}, {Serving, 5}, {Fenced, 5}, {Tombed, 5}, {Gone, 5}, {Serving, 0}, {Serving, e}, {6, 5}, {-1, e}} {
			for _, event := range []string{"Stage", "Open", "Fence", "Tomb"} {
				if got, err := events[event](p, e); got != p || !sameError(err, api.ErrRange) {
					t.Errorf("%v, %s %d: %v, %v", p, event, e, got, err)
				}
			}
		}
	}
}

// The last epoch is one like any other; behind it there is none.
func TestTheLastEpoch(t *testing.T) {
	const last = api.MaxEpoch
	for _, c := range []struct {
		p     Phase
		event string
		want  Phase
		fault error
	}{
		{Phase{Absent, 0}, "Open", Phase{Serving, last}, nil},
		{Phase{Absent, 0}, "Stage", Phase{Staging, last}, nil},
		{Phase{Staging, last - 1}, "Open", Phase{Serving, last}, nil},
		{Phase{Serving, last - 1}, "Open", Phase{Serving, last}, nil},
		{Phase{Serving, last - 1}, "Tomb", Phase{Tombed, last}, nil},
		{Phase{Serving, last}, "Fence", Phase{Fenced, last}, nil},
		{Phase{Tombed, last}, "Stage", Phase{Staging, last}, nil},
		{Phase{Gone, last}, "Stage", Phase{Staging, last}, nil},
		{Phase{Tombed, last}, "Drop", Phase{Gone, last}, nil},
		{Phase{Serving, last}, "Open", Phase{Serving, last}, api.ErrStale},
		{Phase{Staging, last}, "Open", Phase{Staging, last}, api.ErrStale},
		{Phase{Fenced, last}, "Open", Phase{Fenced, last}, api.ErrStale},
		{Phase{Fenced, last}, "Tomb", Phase{Fenced, last}, api.ErrStale},
		{Phase{Staging, last}, "Stage", Phase{Staging, last}, api.ErrStale},
	} {
		if got, err := events[c.event](c.p, last); got != c.want || !sameError(err, c.fault) {
			t.Errorf("%v, %s: %v, %v, not %v, %v", c.p, c.event, got, err, c.want, c.fault)
		}
	}
}

// All choices of what may be wrong at once: the first of them is told, and the phase stays.
func TestOrderOfErrors(t *testing.T) {
	rows := []struct {
		event       string
		good, other int // a state from which it goes, and one from which it doesn't
	}{
		{"Stage", Fenced, Serving},
		{"Open", Staging, Tombed},
		{"Fence", Serving, Fenced},
		{"Tomb", Serving, Gone},
	}
	for _, r := range rows {
		for choice := range 16 {
			far, wrong, elsewhere, stale := choice&1 > 0, choice&2 > 0, choice&4 > 0, choice&8 > 0
			p, e := Phase{r.good, 5}, 6
			if r.event == "Fence" {
				e = 5
			}
			if elsewhere {
				p.State = r.other
			}
			if stale {
				e = 4
			}
			if wrong {
				p.Epoch = 1 << 41
			}
			if far {
				e = -e
			}
			want := error(nil)
			switch {
			case far:
				want = api.ErrRange
			case wrong:
				want = api.ErrForm
			case elsewhere:
				want = api.ErrState
			case stale:
				want = api.ErrStale
			}
			got, err := events[r.event](p, e)
			if !sameError(err, want) || err != nil && got != p {
				t.Errorf("%v, %s %d: %v, %v, not %v", p, r.event, e, got, err, want)
			}
		}
	}
}

func TestDrop(t *testing.T) {
	for _, epoch := range []int{1, 2, 5, 1 << 32, 1<<40 - 1, 1 << 40} {
		if got, err := (Phase{Tombed, epoch}).Drop(); got != (Phase{Gone, epoch}) || err != nil {
			t.Errorf("Tombed %d: %v, %v", epoch, got, err)
		}
		for _, state := range []int{Staging, Serving, Fenced, Gone} {
			p := Phase{state, epoch}
			if got, err := p.Drop(); got != p || !sameError(err, api.ErrState) {
				t.Errorf("%v: %v, %v", p, got, err)
			}
		}
	}
	if got, err := (Phase{}).Drop(); got != (Phase{}) || !sameError(err, api.ErrState) {
		t.Errorf("Absent: %v, %v", got, err)
	}
	for _, p := range []Phase{{Tombed, 0}, {Tombed, -1}, {Tombed, 1<<40 + 1}, {Absent, 1}, {6, 1}, {-1, 0}} {
		if got, err := p.Drop(); got != p || !sameError(err, api.ErrForm) {
			t.Errorf("%v: %v, %v", p, got, err)
		}
	}
}

// admits is what the stamps 4, 5 and 6 are answered, by the states: phases, whose epoch is 5. y: it is admitted, s: ErrStale, d: ErrDown.
var admits = [6]string{Staging: "sdd", Serving: "syd", Fenced: "sdd", Tombed: "ssd", Gone: "ssd"}

func TestAdmit(t *testing.T) {
	answers := map[rune]error{'y': nil, 's': api.ErrStale, 'd': api.ErrDown}
	for state, signs := range admits {
		for k, sign := range signs {
			p := Phase{state, 5}
			if err := p.Admit(4 + k); !sameError(err, answers[sign]) {
				t.Errorf("%v, %d: %v", p, 4+k, err)
			}
		}
	}
	for stamp, want := range map[int]error{
		math.MinInt: api.ErrStale, -1: api.ErrStale,
		0: api.ErrDown, 1: api.ErrDown, 1 << 40: api.ErrDown, math.MaxInt: api.ErrDown,
	} {
		if err := (Phase{}).Admit(stamp); !sameError(err, want) {
			t.Errorf("Absent, %d: %v", stamp, err)
		}
	}
	for _, p := range []Phase{{Serving, 0}, {Serving, -1}, {Serving, 1<<40 + 1}, {Tombed, 0}, {Absent, 1}, {6, 3}, {-1, 3}, {1<<8 + Serving, 3}} {
		for _, stamp := range []int{math.MinInt, p.Epoch - 1, p.Epoch, p.Epoch + 1, math.MaxInt} {
			if err := p.Admit(stamp); !sameError(err, api.ErrDown) {
				t.Errorf("%v isn't right, %d: %v", p, stamp, err)
			}
		}
	}
}

func TestAdmitOfEachPhase(t *testing.T) {
	for _, p := range phases() {
		for _, stamp := range epochs() {
			admitted(t, p, stamp)
		}
		for near := -2; near <= 2; near++ {
			admitted(t, p, p.Epoch+near)
		}
	}
}

func TestWrites(t *testing.T) {
	for state, want := range []bool{false, false, true, false, false, false} {
		if p := (Phase{state, 1}); p.Writes() != want {
			t.Errorf("%v: %v", p, p.Writes())
		}
	}
	for _, p := range phases() {
		if p.Writes() != (p.State == 2) {
			t.Errorf("%v: %v", p, p.Writes())
		}
	}
}

func TestName(t *testing.T) {
	names := []string{"absent", "staging", "serving", "fenced", "tombed", "gone"}
	for _, p := range phases() {
		want := ""
		if 0 <= p.State && p.State <= 5 {
			want = names[p.State]
		}
		if p.Name() != want {
			t.Errorf("%v: %q, not %q", p, p.Name(), want)
		}
	}
}

// past is a phase, and a bit for each epoch: those by which it served, and those by which it served ahead of a fence or a tomb.
type past struct {
	Phase
	served, over int
}

// behind is the past with what an event came to; a bit stands for an epoch above low.
func (h past) behind(event string, next Phase, low int) past {
	if event == "Fence" || event == "Tomb" {
		h.over |= h.served
	}
	if next.State == Serving {
		h.served |= 1 << (next.Epoch - low)
	}
	h.Phase = next
	return h
}

// walk goes through all that may come of some pasts by the epochs above low, up to five of them, and asks P13.2 at each event.
func walk(t *testing.T, low int, list ...past) map[past]bool {
	seen := map[past]bool{}
	for len(list) > 0 {
		h := list[0]
		list = list[1:]
		if seen[h] {
			continue
		}
		seen[h] = true
		for e := low; e <= low+6; e++ {
			if h.over>>(e-low)&1 > 0 && admitted(t, h.Phase, e) {
				t.Fatalf("%v serves %d again", h, e)
			}
			for _, event := range eventNames {
				next, err := events[event](h.Phase, e)
				if err != nil {
					continue
				}
				if next.Epoch < h.Epoch || !Right(next) {
					t.Fatalf("%v, %s %d: %v", h, event, e, next)
				}
				if next.State == Serving && h.over>>(next.Epoch-low)&1 > 0 {
					t.Fatalf("%v, %s %d: it serves again: %v", h, event, e, next)
				}
				if next.Epoch <= low+5 {
					list = append(list, h.behind(event, next, low))
				}
			}
		}
	}
	return seen
}

// P13.2, of all that may come of a repository that was never there.
func TestNothingServesAgain(t *testing.T) {
	seen := walk(t, 0, past{})
	var reached [6][6]bool
	over := 0
	for h := range seen {
		reached[h.State][h.Epoch] = true
		over |= h.over
	}
	for state := Staging; state <= Gone; state++ {
		for epoch := 1; epoch <= 5; epoch++ {
			first := state == Tombed || state == Gone // ahead of a tomb there is an epoch at least
			if reached[state][epoch] != (epoch > 1 || !first) {
				t.Errorf("%v: reached: %v", Phase{state, epoch}, reached[state][epoch])
			}
		}
	}
	if over != 0b111110 {
		t.Errorf("served ahead of a fence or a tomb: %b", over)
	}
}

// P13.2, of all that may come of each phase, at the last epochs too.
func TestNothingServesAgainFromEachPhase(t *testing.T) {
	for _, low := range []int{1, 1 << 20, 1<<32 - 3, 1<<40 - 5, 1<<40 - 3} {
		for state := Staging; state <= Gone; state++ {
			p := Phase{state, low + 1}
			seen := walk(t, low, past{}.behind("", p, low))
			if !seen[past{}.behind("", p, low)] || len(seen) < 10 {
				t.Errorf("from %v: just %d", p, len(seen))
			}
		}
	}
}

// Long orders: whatever comes, it is answered as the plain one says, and epochs never fall.
func TestLongOrders(t *testing.T) {
	came := map[string]int{}
	for seed := range 200 {
		c := &chance{uint64(seed)}
		p, over := Phase{}, []int{}
		for range 100 {
			event := eventNames[c.below(len(eventNames))]
			e := p.Epoch - 2 + c.below(5)
			next, err := turn(t, event, p, e)
			if next.Epoch < p.Epoch || next.State == Serving && slices.Contains(over, next.Epoch) {
				t.Fatalf("%v, %s %d: %v, behind %v", p, event, e, next, over)
			}
			if err == nil {
				came[event]++
			}
			if err == nil && p.State == Serving && next.State != Serving {
				over = append(over, p.Epoch)
			}
			p = next
			admitted(t, p, p.Epoch-2+c.below(5))
		}
	}
	for _, event := range eventNames {
		if came[event] < 200 {
			t.Errorf("%s: just %d", event, came[event])
		}
	}
}
