package shelf

import (
	"bytes"
	"errors"
	"fmt"
	"math"
	"slices"
	"strings"
	"testing"

	"cartage/api"
	"cartage/disk"
	"cartage/entry"
	"cartage/halves"
	"cartage/phase"
	"cartage/push"
	"cartage/repo"
)

var (
	x = blob("x")
	y = blob("y")
)

func TestExample(t *testing.T) {
	d := made(t, 64)
	s := opened(t, d)
	do(t, s.Do("a", OpenUp, 1))
	answer, err := s.Push("a", 1, push.Push{Client: 1, Number: 1, Updates: moves(move("refs/a", nil, x)), Pack: []byte("\x01\x00\x00\x02bx")})
	if answer != api.OK || err != nil {
		t.Fatalf("Push: %d, %v", answer, err)
	}
	for _, s := range []*Shelf{s, opened(t, d)} {
		r := s.Repo("a")
		if s.Phase("a") != (phase.Phase{State: phase.Serving, Epoch: 1}) || r == nil || !slices.Equal(s.Names(), []string{"a"}) {
			t.Fatalf("%v, %q", s.Phase("a"), s.Names())
		}
		if r.Seq() != 1 || r.Ref("refs/a") != idOf(x) || !r.Has(idOf(x)) {
			t.Errorf("%v", r.Entries(0, 9))
		}
	}
}

func TestEventsAreTheirNumbers(t *testing.T) {
	for number, event := range []int{Stage, OpenUp, Fence, Tomb, Drop} {
		if event != number {
			t.Errorf("event %d is %d", number, event)
		}
	}
}

func TestNewShelf(t *testing.T) {
	d := made(t, 64)
	s := opened(t, d)
	if len(s.Names()) != 0 || s.Room() != 31 || s.Serial() != 1 || s.Dead() {
		t.Errorf("Names %q, Room %d, Serial %d, Dead %v", s.Names(), s.Room(), s.Serial(), s.Dead())
	}
	for _, name := range append(strangers, "a") {
		if s.Phase(name) != (phase.Phase{}) || s.Repo(name) != nil {
			t.Errorf("%q: %v, %v", name, s.Phase(name), s.Repo(name))
		}
	}
	if list := records(t, d); len(list) != 0 {
		t.Errorf("records %q", list)
	}
}

// Each record's bytes, written out.
func TestRecordsAsTheyAreTold(t *testing.T) {
	const (
		epoch3 = "\x00\x00\x00\x00\x00\x00\x00\x03"
		epoch4 = "\x00\x00\x00\x00\x00\x00\x00\x04"
		number = "\x00\x00\x00\x00\x00\x00\x01\x02"
	)
	noughts := strings.Repeat("\x00", 32)
	id := idOf(x)
	b := started(t, 100,
		doing("ab", OpenUp, 3),
		pushing("ab", 3, push.Push{Client: 1, Number: 258, Updates: moves(move("refs/a", nil, x)), Pack: packOf(x)}),
		pushing("ab", 3, bad(2, 258)),
		doing("ab", Fence, 3),
		doing("ab", Tomb, 4),
		doing("c", Stage, 3),
		applying("c", done(1, 258, moves(move("refs/a", nil, x)), x)),
		doing("ab", Drop, -1),
	)
	pushed := "\x01" + number + "\x00\x01\x00\x06refs/a" + noughts + string(id[:]) + "\x01\x00\x02bx"
	want := []string{
		"\x01\x00\x02ab\x02" + epoch3,
		"\x02\x00\x02ab\x00\x58" + pushed,
		"\x02\x00\x02ab\x00\x0c\x02" + number + "\x01\x00\x00",
		"\x01\x00\x02ab\x03" + epoch3,
		"\x01\x00\x02ab\x04" + epoch4,
		"\x01\x00\x01c\x01" + epoch3,
		"\x02\x00\x01c\x00\x58" + pushed,
		"\x01\x00\x02ab\x05" + epoch4,
	}
	got := records(t, b.d)
	for k := range max(len(got), len(want)) {
		if k >= len(got) || k >= len(want) || string(got[k]) != want[k] {
			t.Fatalf("record %d of %q isn't that of %q", k, got, want)
		}
	}
	if b.s.Serial() != 1 || b.s.Room() != 49-6-2*4 {
		t.Errorf("Serial %d, Room %d", b.s.Serial(), b.s.Room())
	}
}

// inState is a pair whose name a is in that state, by 5, with an entry where it may have one.
func inState(t *testing.T, state int) *pair {
	t.Helper()
	list := [][]byte{phaseBytes("a", state, 5), entryBytes("a", refusal(0, 1, 2))}
	switch state {
	case 0:
		list = nil
	case 5:
		list = list[:1]
	}
	return on(t, diskOf(t, 64, list...))
}

// written is what each event with the epochs 4, 5 and 6 comes to, by the states. A number is the state that it is then; s stands for ErrStale, x for ErrState.
var written = [5][6]string{
	//       0      1      2      3      4      5
	Stage:  {"111", "ss1", "xxx", "ss1", "s11", "s11"},
	OpenUp: {"222", "ss2", "ss2", "ss2", "xxx", "xxx"},
	Fence:  {"xxx", "xxx", "s3s", "xxx", "xxx", "xxx"},
	Tomb:   {"xxx", "ss4", "ss4", "ss4", "ss4", "xxx"},
	Drop:   {"xxx", "xxx", "xxx", "xxx", "555", "xxx"},
}

func TestEventsWrittenOut(t *testing.T) {
	for event, row := range written {
		for state, signs := range row {
			for k, sign := range signs {
				b := inState(t, state)
				was, room, deeds := b.s.Phase("a"), b.s.Room(), b.d.Deeds()
				want, fault, epoch := state, error(nil), 4+k
				switch {
				case sign == 's':
					fault, epoch = api.ErrStale, was.Epoch
				case sign == 'x':
					fault, epoch = api.ErrState, was.Epoch
				case event == Drop:
					want, epoch = 5, 5
				default:
					want = int(sign - '0')
				}
				b.comes(doing("a", event, 4+k), 0, fault)
				if got := b.s.Phase("a"); got != (phase.Phase{State: want, Epoch: epoch}) {
					t.Errorf("%v, event %d by %d: %v", was, event, 4+k, got)
				}
				if fault == nil && b.s.Room() != room-1 || fault != nil && (b.s.Room() != room || b.d.Deeds() != deeds) {
					t.Errorf("%v, event %d by %d: Room %d, not %d; %d deeds, not %d", was, event, 4+k, b.s.Room(), room, b.d.Deeds(), deeds)
				}
				b.reopen()
			}
		}
	}
}

func TestEachEventOfEachState(t *testing.T) {
	for state := range 6 {
		for _, event := range []int{math.MinInt, -256, -1, 0, 1, 2, 3, 4, 5, 6, 256, 1 << 32, math.MaxInt} {
			b := inState(t, state)
			for _, e := range []int{math.MinInt, -5, -1, 0, 1<<40 + 1, math.MaxInt, 1, 4, 5, 6, 1<<40 - 1, 1 << 40} {
				b.come(doing("a", event, e))
			}
			b.reopen()
		}
	}
}

// An event changes one name's phase, and no other one's.
func TestEventsOfOtherNames(t *testing.T) {
	b := started(t, 200,
		doing("a", OpenUp, 1), pushing("a", 1, ask(0, 1, moves(move("refs/a", nil, x)), x)),
		doing("b", OpenUp, 2), pushing("b", 2, ask(0, 1, moves(move("refs/b", nil, y)), y)),
		doing("aa", Stage, 3), applying("aa", refusal(0, 1, 2)),
	)
	was := seen(b.s)
	b.come(doing("a-b", OpenUp, 1), doing("a-b", Tomb, 2), doing("a-b", Drop, 0))
	if got := seen(b.s); strings.Replace(got, "a-b {5 2}\n", "", 1) != was {
		t.Errorf("%s, not %s", got, was)
	}
	b.come(doing("b", Tomb, 3), doing("b", Drop, 0), doing("aa", Stage, 4))
	if got := b.s.Repo("a"); got == nil || got.Seq() != 1 || got.Ref("refs/a") != idOf(x) {
		t.Error("what another one dropped is missing")
	}
	if !slices.Equal(b.s.Names(), []string{"a", "a-b", "aa", "b"}) {
		t.Errorf("Names %q", b.s.Names())
	}
	b.reopen()
}

// Entries stay where a repository is fenced, opened or tombed; where it is staged or dropped, there are none.
func TestWhatAPhaseKeeps(t *testing.T) {
	b := started(t, 200, doing("a", Stage, 1), applying("a", done(0, 1, moves(move("refs/a", nil, x)), x)))
	has := func(what string, n int) {
		t.Helper()
		for _, s := range []*Shelf{b.s, b.apart().s} {
			if r := s.Repo("a"); (r == nil) != (n < 0) || r != nil && r.Seq() != n {
				t.Errorf("%s: %v", what, r)
			}
		}
	}
	has("staged, and applied", 1)
	b.come(doing("a", OpenUp, 2))
	has("opened", 1)
	b.come(pushing("a", 2, bad(0, 2)))
	has("pushed", 2)
	b.come(doing("a", OpenUp, 3))
	has("opened by a later epoch", 2)
	b.come(doing("a", Fence, 3))
	has("fenced", 2)
	b.come(doing("a", OpenUp, 4), doing("a", Fence, 4), doing("a", Tomb, 5))
	has("tombed", 2)
	b.come(doing("a", Tomb, 6))
	has("tombed by a later epoch", 2)
	b.come(doing("a", Drop, 0))
	has("dropped", -1)
	b.come(doing("a", Stage, 6))
	has("staged behind a drop", 0)
	b.come(applying("a", refusal(0, 1, 2)))
	has("applied", 1)
	b.come(doing("a", Stage, 7))
	has("staged by a later epoch", 0)
	b.come(applying("a", refusal(0, 1, 2)), doing("a", OpenUp, 8), doing("a", Fence, 8), doing("a", Stage, 9))
	has("staged behind a fence", 0)
	b.come(applying("a", refusal(0, 1, 2)), doing("a", Tomb, 10), doing("a", Stage, 10))
	has("staged behind a tomb", 0)
}

// All choices of what may be wrong at once: the first of it is told, and nothing is done.
func TestOrderOfDosErrors(t *testing.T) {
	for choice := range 64 {
		dead, name, kind, far, stale, full := choice&1 > 0, choice&2 > 0, choice&4 > 0, choice&8 > 0, choice&16 > 0, choice&32 > 0
		b := started(t, 64)
		for k := range 8 {
			b.come(doing(string(rune('a'+k)), OpenUp, 5))
		}
		if !full {
			b = started(t, 64, doing("a", OpenUp, 5))
		}
		c := doing("new", OpenUp, 6)
		var want error
		switch {
		case dead:
			want = api.ErrDown
		case name:
			want = api.ErrName
		case kind:
			want = api.ErrKind
		case far:
			want = api.ErrRange
		case stale:
			want = api.ErrStale
		case full:
			want = api.ErrFull
		}
		if stale {
			c.name, c.e = "a", 4
		}
		if far {
			c.e = 1<<40 + 1
		}
		if kind {
			c.event = 5
		}
		if name {
			c.name = "new-"
		}
		if dead {
			kill(t, b)
		}
		b.comes(c, 0, want)
	}
}

// kill lets the power fail within a call of both.
func kill(t *testing.T, b *pair) {
	t.Helper()
	do(t, b.d.Arm(0))
	do(t, b.p.disk.Arm(0))
	b.come(doing("killer", OpenUp, 1), doing("a", OpenUp, 1<<39))
	if !b.s.Dead() {
		t.Fatal("it lives")
	}
}

func TestNamesThatAreNone(t *testing.T) {
	b := started(t, 100, doing("a", OpenUp, 1), doing("b", Stage, 1))
	for _, name := range []string{"", "A", "a-", "-", "-a", "9", "9a", "a/b", "refs/a", "a b", "a\x00", "é", "aé", "\xff", "abcdefghijklm", strings.Repeat("a", 1<<16)} {
		for _, c := range []call{
			doing(name, OpenUp, 1), doing(name, 9, 1), doing(name, OpenUp, 0), doing(name, Drop, 0),
			applying(name, refusal(0, 1, 2)), applying(name, entry.Entry{}),
			pushing(name, 1, bad(0, 1)), pushing(name, 0, bad(9, 0)),
		} {
			b.comes(c, 0, api.ErrName)
		}
		if b.s.Phase(name) != (phase.Phase{}) || b.s.Repo(name) != nil {
			t.Errorf("%q is there", name)
		}
	}
	b = started(t, 100)
	names := []string{"a", "z", "a9", "a-9", "a--b", "abcdefghijkl"}
	for _, name := range names {
		b.come(doing(name, OpenUp, 1), pushing(name, 1, ask(0, 1, moves(move("refs/a", nil, x)), x)))
	}
	slices.Sort(names)
	if !slices.Equal(b.s.Names(), names) {
		t.Errorf("Names %q", b.s.Names())
	}
	b.reopen()
}

// There are at most MaxRepos names that aren't Absent; what is Gone is one of them.
func TestAsManyAsMayBe(t *testing.T) {
	b := started(t, 200)
	for k := range 8 {
		b.comes(doing(string(rune('a'+k)), k%2, 3), 0, nil)
	}
	for range 2 {
		for _, name := range []string{"i", "aa", "abcdefghijkl"} {
			b.comes(doing(name, OpenUp, 1), 0, api.ErrFull)
			b.comes(doing(name, Stage, 1<<40), 0, api.ErrFull)
			b.comes(doing(name, Fence, 1), 0, api.ErrState)
			b.comes(doing(name, Drop, 1), 0, api.ErrState)
			b.comes(doing(name, OpenUp, 0), 0, api.ErrRange)
		}
		b.comes(doing("b", OpenUp, b.s.Phase("b").Epoch+1), 0, nil)
		b.comes(doing("a", Tomb, b.s.Phase("a").Epoch+1), 0, nil)
		b.comes(doing("a", Drop, 0), 0, nil)
		b.comes(doing("i", OpenUp, 1), 0, api.ErrFull)
		b.comes(doing("a", Stage, b.s.Phase("a").Epoch), 0, nil)
		b.reopen()
	}
	if len(b.s.Names()) != 8 {
		t.Errorf("Names %q", b.s.Names())
	}
}

func TestApply(t *testing.T) {
	first := done(3, 7, moves(move("refs/a", nil, x)), x)
	b := started(t, 400, doing("a", Stage, 2))
	b.comes(applying("a", first), 0, nil)
	for answer := 1; answer <= 10; answer++ {
		b.comes(applying("a", refusal(answer%8, 10+answer, answer)), 0, nil)
	}
	b.comes(applying("a", done(3, 100, moves(move("refs/a", x, nil), move("refs/b", nil, y)), y)), 0, nil)
	r := b.s.Repo("a")
	if r.Seq() != 12 || r.Ref("refs/a") != (api.Oid{}) || r.Ref("refs/b") != idOf(y) || !r.Has(idOf(x)) {
		t.Errorf("%v", r.Entries(0, 20))
	}
	if !entry.Same(r.Entries(0, 1)[0], first) {
		t.Errorf("%v", r.Entries(0, 1))
	}
	b.reopen()
	b.come(doing("a", OpenUp, 3))
	b.reopen()
}

// manyBlobs is an entry that brings so many small objects.
func manyBlobs(number, from, n int) entry.Entry {
	e := done(0, number, moves(move("refs/"+string(rune('a'+number)), nil, blob(fmt.Sprint(from)))))
	for k := range n {
		e.Objects = append(e.Objects, blob(fmt.Sprint(from+k)))
	}
	return e
}

func TestApplyRefuses(t *testing.T) {
	b := started(t, 2000, doing("s", Stage, 2), doing("t", OpenUp, 2),
		applying("s", done(0, 5, moves(move("refs/a", nil, x)), x)), applying("s", manyBlobs(6, 100, 63)))
	z := blob("z")
	large := done(1, 1, moves(move("refs/b", nil, x)))
	for k := range 10 {
		large.Objects = append(large.Objects, bytes.Repeat([]byte{'b', byte(k)}, 150))
	}
	room, deeds := b.s.Room(), b.d.Deeds()
	for what, c := range map[string]struct {
		e    entry.Entry
		want error
	}{
		"nothing":                 {entry.Entry{}, api.ErrForm},
		"client 8":                {refusal(8, 1, 2), api.ErrForm},
		"number 0":                {refusal(1, 0, 2), api.ErrForm},
		"answer 11":               {refusal(1, 1, 11), api.ErrForm},
		"no update":               {done(1, 1, nil), api.ErrForm},
		"a ref's name":            {done(1, 1, moves(move("b", nil, x))), api.ErrForm},
		"an object":               {done(1, 1, moves(move("refs/b", nil, x)), []byte("?")), api.ErrForm},
		"too large":               {large, api.ErrForm},
		"wrong, and stale":        {done(0, 5, nil), api.ErrForm},
		"the last number":         {refusal(0, 6, 2), api.ErrStale},
		"one below":               {refusal(0, 4, 2), api.ErrStale},
		"stale, and elsewhere":    {done(0, 6, moves(move("refs/a", y, x))), api.ErrStale},
		"elsewhere":               {done(1, 1, moves(move("refs/a", y, nil))), api.ErrCas},
		"it is there":             {done(1, 1, moves(move("refs/a", nil, y))), api.ErrCas},
		"it isn't there":          {done(1, 1, moves(move("refs/b", x, nil))), api.ErrCas},
		"elsewhere, and too many": {done(1, 1, moves(move("refs/a", y, x)), z), api.ErrCas},
		"too many objects":        {done(1, 1, moves(move("refs/b", nil, z)), z), api.ErrFull},
		"too many, and missing":   {done(1, 1, moves(move("refs/b", nil, y)), z), api.ErrFull},
		"missing":                 {done(1, 1, moves(move("refs/b", nil, z))), api.ErrMissing},
	} {
		t.Run(what, func(t *testing.T) {
			e := *b
			e.t = t
			e.comes(applying("s", c.e), 0, c.want)
			e.comes(applying("t", c.e), 0, api.ErrState)
			e.comes(applying("u", c.e), 0, api.ErrState)
		})
	}
	if b.s.Room() != room || b.d.Deeds() != deeds {
		t.Errorf("Room %d, %d deeds, not %d, %d", b.s.Room(), b.d.Deeds(), room, deeds)
	}
	b = started(t, 2000, doing("s", Stage, 2), applying("s", manyBlobs(6, 100, 62)))
	b.comes(applying("s", done(1, 1, moves(move("refs/b", nil, z)), blob("100"))), 0, api.ErrDup)
	b.comes(applying("s", done(1, 1, moves(move("refs/b", nil, z)), z)), 0, nil)
}

func TestApplyOfEachState(t *testing.T) {
	for state := range 6 {
		want := api.ErrState
		if state == 1 {
			want = nil
		}
		b := inState(t, state)
		b.comes(applying("a", refusal(0, 2, 2)), 0, want)
		b.comes(applying("a", done(1, 1, moves(move("refs/a", nil, x)), x)), 0, want)
		b.reopen()
	}
}

// admits is what the stamps 4, 5 and 6 are answered, by the states. y: it is admitted, s: ErrStale, d: ErrDown.
var admits = [6]string{"ddd", "sdd", "syd", "sdd", "ssd", "ssd"}

func TestPushOfEachState(t *testing.T) {
	for state, signs := range admits {
		for k, sign := range signs {
			b := inState(t, state)
			was := seen(b.s)
			answer, want := 0, error(nil)
			switch sign {
			case 's':
				want = api.ErrStale
			case 'd':
				want = api.ErrDown
			default:
				answer = api.Malformed
			}
			b.comes(pushing("a", 4+k, bad(0, 2)), answer, want)
			if want == nil {
				continue
			}
			b.comes(pushing("a", 4+k, bad(0, 1)), 0, want) // by a number that it has
			b.comes(pushing("a", 4+k, bad(8, 1)), 0, want) // ErrForm, if it were admitted
			b.comes(pushing("a", 4+k, ask(1, 1, moves(move("refs/a", nil, x)), x)), 0, want)
			if seen(b.s) != was || b.s.Dead() {
				t.Errorf("state %d, stamp %d: %s", state, 4+k, seen(b.s))
			}
		}
	}
	b := inState(t, 2)
	for _, stamp := range []int{math.MinInt, -1, 0, 1} {
		b.comes(pushing("a", stamp, bad(0, 2)), 0, api.ErrStale)
	}
	for _, stamp := range []int{1 << 40, 1<<40 + 1, math.MaxInt, 1<<32 + 5} {
		b.comes(pushing("a", stamp, bad(0, 2)), 0, api.ErrDown)
	}
}

// Each push that is judged is an entry, of whatever answer; one by the last number is none, and does no deed.
func TestPush(t *testing.T) {
	b := started(t, 800, doing("a", OpenUp, 3))
	wide := func(k int) []byte { return bytes.Repeat([]byte{'b', byte(k)}, 150) }
	var many []api.Update
	for k := range 8 {
		many = append(many, move("refs/many/"+strings.Repeat(string(rune('a'+k)), 14), nil, x))
	}
	large := push.Push{Client: 0, Number: 7, Updates: many, Pack: packOf(x, wide(1), wide(2), wide(3), wide(4), wide(5), wide(6))}
	for k, c := range []struct {
		p    push.Push
		want int
	}{
		{ask(0, 1, moves(move("refs/a", nil, x)), x), api.OK},
		{ask(0, 2, moves(move("refs/a", nil, x)), x), api.CasMismatch},
		{ask(0, 3, moves(move("refs/b", nil, y))), api.MissingObject},
		{bad(0, 4), api.Malformed},
		{ask(0, 5, moves(move("refs/b", nil, y)), y), api.OK},
		{push.Push{Client: 0, Number: 6, Updates: moves(move("refs/c", nil, x)), Pack: make([]byte, 2001)}, api.TooLarge},
		{large, api.OK},
		{push.Push{Client: 0, Number: 8, Updates: moves(move("refs/c", nil, x)), Pack: []byte{65}}, api.Malformed},
		{ask(0, 9, moves(move("refs/a", x, nil))), api.OK},
		{ask(5, 1<<40, moves(move("refs/a", nil, x))), api.OK},
	} {
		b.comes(pushing("a", 3, c.p), c.want, nil)
		if b.s.Repo("a").Seq() != k+1 {
			t.Fatalf("push %d: %d entries", k, b.s.Repo("a").Seq())
		}
		deeds, room := b.d.Deeds(), b.s.Room()
		b.comes(pushing("a", 3, c.p), c.want, nil)
		b.comes(pushing("a", 3, bad(c.p.Client, c.p.Number)), c.want, nil)
		if b.d.Deeds() != deeds || b.s.Room() != room || b.s.Repo("a").Seq() != k+1 {
			t.Errorf("push %d, once more: %d deeds, Room %d, not %d, %d", k, b.d.Deeds(), b.s.Room(), deeds, room)
		}
		if c.p.Number > 1 {
			b.comes(pushing("a", 3, bad(c.p.Client, c.p.Number-1)), 0, api.ErrStale)
		}
		b.reopen()
		b.comes(pushing("a", 3, c.p), c.want, nil)
	}
	for _, p := range []push.Push{bad(-1, 1), bad(8, 1), bad(0, 0), bad(0, -1), bad(0, 1<<40+1), bad(math.MaxInt, math.MinInt)} {
		b.comes(pushing("a", 3, p), 0, api.ErrForm)
	}
}

// More refs, or objects, than may be are QuotaFull: that is an entry, and no ErrQuota.
func TestPushOfTooMuch(t *testing.T) {
	b := started(t, 2000, doing("a", Stage, 3), applying("a", manyBlobs(1, 100, 63)), doing("a", OpenUp, 4))
	b.comes(pushing("a", 4, ask(1, 1, moves(move("refs/x", nil, x)), x, y)), api.QuotaFull, nil)
	b.comes(pushing("a", 4, ask(1, 2, moves(move("refs/x", nil, x)), x)), api.OK, nil)
	b.comes(pushing("a", 4, ask(1, 3, moves(move("refs/y", nil, y)), y)), api.QuotaFull, nil)
	if b.s.Repo("a").Seq() != 4 {
		t.Errorf("%d entries", b.s.Repo("a").Seq())
	}
	b.reopen()
}

// How many sectors those records have.
func sectors(list ...[]byte) int {
	n := 0
	for _, b := range list {
		n += (10 + len(b) + 31) / 32
	}
	return n
}

// sameRecords fails where a disk's log has other records.
func sameRecords(t *testing.T, what string, d *disk.Disk, want ...[]byte) {
	t.Helper()
	if got := records(t, d); !slices.EqualFunc(got, want, bytes.Equal) {
		t.Fatalf("%s: the records are %q, not %q", what, got, want)
	}
}

// The log is filled up to its last sector; what is put then lays it anew: by names, phases ahead of entries, and nothing of what is Gone but that.
func TestLaidAnew(t *testing.T) {
	calls := []call{
		doing("b", OpenUp, 1), pushing("b", 1, ask(0, 1, moves(move("refs/b", nil, x)), x)),
		doing("gone", OpenUp, 1), pushing("gone", 1, bad(0, 1)), doing("gone", Tomb, 2), doing("gone", Drop, 0),
		doing("a", Stage, 1), applying("a", refusal(1, 1, 2)), doing("a", Stage, 2), applying("a", refusal(2, 1, 3)), applying("a", refusal(1, 5, 4)),
		doing("tombed", OpenUp, 1), pushing("tombed", 1, bad(0, 1)), doing("tombed", Tomb, 9),
		doing("fenced", OpenUp, 1), pushing("fenced", 1, bad(0, 9)), doing("fenced", Fence, 1),
		pushing("b", 1, bad(0, 7)),
	}
	want := [][]byte{
		phaseBytes("a", 1, 2), entryBytes("a", refusal(2, 1, 3)), entryBytes("a", refusal(1, 5, 4)),
		phaseBytes("b", 2, 1), entryBytes("b", done(0, 1, moves(move("refs/b", nil, x)), x)), entryBytes("b", refusal(0, 7, 1)),
		phaseBytes("fenced", 3, 1), entryBytes("fenced", refusal(0, 9, 1)),
		phaseBytes("gone", 5, 2),
		phaseBytes("tombed", 4, 9), entryBytes("tombed", refusal(0, 1, 1)),
	}
	for _, last := range []call{
		doing("a", OpenUp, 3), doing("a", Stage, 3), doing("b", Fence, 1), doing("b", Tomb, 2), doing("new", OpenUp, 1),
		doing("tombed", Drop, 0), doing("gone", Stage, 7), applying("a", refusal(1, 6, 2)), pushing("b", 1, bad(3, 1)),
		pushing("b", 1, ask(3, 1, moves(move("refs/b", x, y)), y)),
	} {
		full := started(t, 400, calls...)
		used := 199 - full.s.Room()
		b := started(t, 2*(used+1), calls...)
		if b.s.Room() != 0 || b.s.Serial() != 1 {
			t.Fatalf("Room %d, Serial %d", b.s.Room(), b.s.Serial())
		}
		was := records(t, b.d)
		b.comes(doing("a", Stage, 2), 0, api.ErrStale) // what isn't written down needs no room
		b.comes(pushing("b", 1, bad(0, 7)), api.Malformed, nil)
		sameRecords(t, "nothing was put", b.d, was...)
		b.come(last)
		got := records(t, b.d)
		sameRecords(t, last.String(), b.d, append(slices.Clip(want), got[len(got)-1])...)
		put := records(t, full.apart().after(last).d)
		if !bytes.Equal(got[len(got)-1], put[len(put)-1]) {
			t.Errorf("%v: the record behind is %q", last, got[len(got)-1])
		}
		if b.s.Serial() != 2 || b.s.Room() != used-sectors(got...) {
			t.Errorf("%v: Serial %d, Room %d", last, b.s.Serial(), b.s.Room())
		}
		b.reopen()
	}
}

// after is the pair, behind calls.
func (b *pair) after(calls ...call) *pair {
	b.t.Helper()
	b.come(calls...)
	return b
}

// A record that has just the room that is left is put behind; one with a sector more lays the log anew.
func TestJustRoom(t *testing.T) {
	for room := range 4 {
		for need, c := range map[int]call{
			1: doing("a", OpenUp, 2),
			2: pushing("abcdefghijkl", 1, bad(0, 1)),
			4: pushing("a", 1, ask(0, 1, moves(move("refs/a", nil, x)), x)),
		} {
			b := started(t, 2*(1+5+room), doing("a", OpenUp, 1), doing("abcdefghijkl", OpenUp, 1), doing("b", OpenUp, 1), doing("b", Tomb, 2))
			if b.s.Room() != room {
				t.Fatalf("Room %d", b.s.Room())
			}
			b.come(c)
			serial, left := 1, room-need
			if need > room {
				serial, left = 2, room+1-need
			}
			if left < 0 {
				continue // there is no room even so
			}
			if b.s.Serial() != serial || b.s.Room() != left {
				t.Errorf("%v with room %d: Serial %d, Room %d", c, room, b.s.Serial(), b.s.Room())
			}
		}
	}
}

// filled is a pair on whose log there is room for so many sectors, laid anew or not: a serves by 1, s is staged by 1.
func filled(t *testing.T, room int) *pair {
	t.Helper()
	b := started(t, 2*(1+12), doing("a", OpenUp, 1), doing("s", Stage, 1))
	for number := 1; b.s.Room() > room; number++ {
		b.come(pushing("a", 1, bad(0, number)))
	}
	return b
}

// Where there is no room even when the log is laid anew, that is all that is done.
func TestNoRoomEvenSo(t *testing.T) {
	b := filled(t, 0)
	was := seen(b.s)
	for k, c := range []call{
		doing("a", OpenUp, 3), doing("a", Fence, 1), doing("a", Tomb, 3), doing("new", OpenUp, 1), doing("new", Stage, 1),
		doing("s", OpenUp, 2), doing("s", Stage, 2), applying("s", refusal(0, 1, 2)), applying("s", done(0, 1, moves(move("refs/a", nil, x)), x)),
		pushing("a", 1, bad(0, 11)), pushing("a", 1, ask(1, 1, moves(move("refs/a", nil, x)), x)),
	} {
		b.comes(c, 0, api.ErrQuota)
		if b.s.Serial() != 2+k || b.s.Room() != 0 || seen(b.s) != was || b.s.Dead() {
			t.Fatalf("%v: Serial %d, Room %d, Dead %v, %s", c, b.s.Serial(), b.s.Room(), b.s.Dead(), seen(b.s))
		}
		sameRecords(t, c.String(), b.d, anew(b.p.state())...)
	}
	for _, c := range []call{doing("a", OpenUp, 1), doing("s", Stage, 1), applying("s", refusal(0, 0, 2)), pushing("a", 1, bad(0, 9)), pushing("a", 2, bad(0, 11))} {
		deeds := b.d.Deeds()
		b.come(c)
		if b.d.Deeds() != deeds {
			t.Errorf("%v has nothing to write down, and lays the log anew", c)
		}
	}
	b.comes(pushing("a", 1, bad(0, 10)), api.Malformed, nil)
	b.reopen()
	if seen(b.s) != was {
		t.Errorf("opened anew: %s", seen(b.s))
	}
}

// What is small may have room where something greater has none.
func TestRoomForSmallOnes(t *testing.T) {
	wide := ask(1, 1, moves(move("refs/a", nil, x)), x)
	for room := 1; room <= 4; room++ {
		b := filled(t, room)
		answer, fault, serial := 0, api.ErrQuota, 2
		if room == 4 {
			fault, serial = nil, 1
		}
		b.comes(pushing("a", 1, wide), answer, fault)
		if b.s.Serial() != serial || b.s.Room() != room%4 {
			t.Errorf("Serial %d, Room %d", b.s.Serial(), b.s.Room())
		}
		for range room % 4 {
			b.comes(pushing("a", 1, bad(2, 20-b.s.Room())), api.Malformed, nil)
		}
		b.comes(pushing("a", 1, bad(3, 1)), 0, api.ErrQuota)
		b.reopen()
	}
}

// A drop, and a repository that is staged anew, make room: but just when the log is laid anew.
func TestRoomBehindADrop(t *testing.T) {
	b := filled(t, 2)
	b.come(doing("a", Tomb, 2), doing("a", Drop, 0))
	if b.s.Room() != 0 || b.s.Serial() != 1 {
		t.Errorf("Room %d, Serial %d", b.s.Room(), b.s.Serial())
	}
	b.come(doing("a", Stage, 2))
	sameRecords(t, "staged", b.d, phaseBytes("a", 5, 2), phaseBytes("s", 1, 1), phaseBytes("a", 1, 2))
	if b.s.Room() != 12-3 || b.s.Serial() != 2 {
		t.Errorf("Room %d, Serial %d", b.s.Room(), b.s.Serial())
	}
	b = filled(t, 2)
	b.come(doing("a", Tomb, 2), doing("a", Stage, 2), applying("a", refusal(0, 1, 2)))
	sameRecords(t, "applied", b.d, phaseBytes("a", 1, 2), phaseBytes("s", 1, 1), entryBytes("a", refusal(0, 1, 2)))
	b.reopen()
}

// With the greatest serial the log can't be laid anew any more: ErrQuota, and it stays.
func TestTheLastSerial(t *testing.T) {
	last := func(list ...[]byte) *disk.Disk {
		t.Helper()
		d := made(t, 16)
		do(t, d.Write(0, headOf(1<<40-1)))
		l, err := halves.Open(d)
		do(t, err)
		do(t, l.Compact(list))
		return d
	}
	b := on(t, last())
	if b.s.Serial() != 1<<40 || b.s.Room() != 7 {
		t.Fatalf("Serial %d, Room %d", b.s.Serial(), b.s.Room())
	}
	for e := range 7 {
		b.come(doing("a", OpenUp, 1+e))
	}
	was, deeds := seen(b.s), b.d.Deeds()
	for range 2 {
		b.comes(doing("a", OpenUp, 8), 0, api.ErrQuota)
		b.comes(doing("a", Fence, 7), 0, api.ErrQuota)
		b.comes(doing("b", Stage, 8), 0, api.ErrQuota)
		b.comes(pushing("a", 7, bad(0, 1)), 0, api.ErrQuota)
		b.comes(doing("a", Fence, 6), 0, api.ErrStale)
	}
	if seen(b.s) != was || b.s.Serial() != 1<<40 || b.d.Deeds() != deeds || b.s.Dead() {
		t.Errorf("%s, Serial %d, %d deeds, not %d", seen(b.s), b.s.Serial(), b.d.Deeds(), deeds)
	}
	b.reopen()
	d := last(phaseBytes("a", 2, 1), []byte("?"))
	deeds = d.Deeds()
	if s, err := Open(d); s != nil || !errors.Is(err, api.ErrQuota) || d.Deeds() != deeds {
		t.Errorf("Open: %v, %v", s, err)
	}
}

func TestOpenRefuses(t *testing.T) {
	refuses := func(what string, d *disk.Disk, want error) {
		t.Helper()
		if s, err := Open(d); s != nil || !sameError(err, want) {
			t.Errorf("%s: %v, %v, not %v", what, s, err, want)
		}
	}
	refuses("no disk", nil, api.ErrNone)
	refuses("a disk without sectors", &disk.Disk{}, api.ErrRange)
	refuses("2 sectors", made(t, 2), api.ErrRange)
	refuses("3 sectors", made(t, 3), api.ErrRange)
	d := made(t, 64)
	do(t, d.Arm(4)) // five would do
	refuses("power for 4 deeds", d, api.ErrDown)
	refuses("the power is off", d, api.ErrDown)
	d.Crash(nil)
	opened(t, d)
	d = diskOf(t, 64, phaseBytes("a", 2, 1), []byte("?"))
	deeds := d.Deeds()
	e := d.Copy()
	opened(t, e)
	for n := range e.Deeds() - deeds {
		e := d.Copy()
		do(t, e.Arm(n))
		refuses("laid anew without power", e, api.ErrDown)
	}
	refuses("a disk of 4 sectors that is off", off(t, made(t, 4)), api.ErrDown)
	b := on(t, made(t, 4))
	b.comes(doing("a", OpenUp, 1), 0, nil)
	b.comes(doing("a", OpenUp, 2), 0, api.ErrQuota)
	b = on(t, made(t, 4096))
	b.comes(doing("a", OpenUp, 1), 0, nil)
}

// off is a disk whose power is off.
func off(t *testing.T, d *disk.Disk) *disk.Disk {
	t.Helper()
	do(t, d.Arm(0))
	if d.Sync() == nil {
		t.Fatal("it is on")
	}
	return d
}

// strange is what a record can't be, beside a name that serves by 1 and has just a refusal of client 0 by number 5.
func strange() map[string][]byte {
	few := func(b []byte) []byte { return b[:len(b)-1] }
	much := func(b []byte) []byte { return append(slices.Clip(b), 0) }
	p, e := phaseBytes("a", 3, 1), entryBytes("a", refusal(0, 6, 2))
	list := map[string][]byte{
		"kind 0":                     append([]byte{0}, p[1:]...),
		"kind 3":                     append([]byte{3}, p[1:]...),
		"kind 255":                   append([]byte{255}, e[1:]...),
		"a phase of kind 2":          append([]byte{2}, p[1:]...),
		"an entry of kind 1":         append([]byte{1}, e[1:]...),
		"kind 0, and a name":         append([]byte{0}, p[1:4]...),
		"kind 3, and a name":         append([]byte{3}, p[1:4]...),
		"a phase's name alone":       p[:4],
		"an entry's name alone":      e[:4],
		"just a kind":                {1},
		"just a kind, of an entry":   {2},
		"no name's length":           {1, 0},
		"a phase that ends too soon": few(p),
		"an entry that does":         few(e),
		"a phase, and more":          much(p),
		"an entry, and more":         much(e),
		"an epoch of 8 bytes":        append(slices.Clip(p[:5]), 255, 255, 255, 255, 255, 255, 255, 255),
		"no entry's bytes":           slices.Concat(e[:4], []byte{0, 0}),
		"an entry, and more in it":   slices.Concat(e[:4], short(much(e[6:]))),
		"an entry, and less in it":   slices.Concat(e[:4], short(few(e[6:]))),
		"an entry of client 8":       slices.Concat(e[:4], short(append([]byte{8}, e[7:]...))),
		"an entry with answer 11":    slices.Concat(e[:4], short(append(slices.Clip(e[6:15]), 11, 0, 0))),
		"an entry that is too large": slices.Concat(e[:4], short(make([]byte, 2801))),
		"the last number":            entryBytes("a", refusal(0, 5, 2)),
		"one below":                  entryBytes("a", refusal(0, 4, 2)),
		"elsewhere":                  entryBytes("a", done(0, 6, moves(move("refs/a", x, y)), y)),
		"missing":                    entryBytes("a", done(0, 6, moves(move("refs/a", nil, x)), y)),
		"missing, of a new name":     entryBytes("c", done(0, 6, moves(move("refs/a", nil, x)), y)),
		"state 6":                    phaseBytes("a", 6, 2),
		"state 255":                  phaseBytes("a", 255, 2),
		"state 6, of a new name":     phaseBytes("c", 6, 2),
		"absent by an epoch":         phaseBytes("a", 0, 1),
		"a text":                     []byte("a text that is no record"),
		"noughts":                    make([]byte, 40),
		"many noughts":               make([]byte, 3000),
	}
	for state := 1; state <= 5; state++ {
		list[fmt.Sprint("by none, state ", state)] = phaseBytes("a", state, 0)
		list[fmt.Sprint("by too much, state ", state)] = phaseBytes("a", state, 1<<40+1)
	}
	for _, name := range []string{"", "A", "a-", "-a", "9", "a/b", "é", "abcdefghijklm", "a\x00"} {
		list[fmt.Sprintf("a phase of %q", name)] = phaseBytes(name, 2, 1)
		list[fmt.Sprintf("an entry of %q", name)] = entryBytes(name, refusal(0, 6, 2))
	}
	return list
}

// What can't be so, and what is behind it, is passed over; the log is laid anew.
func TestStrangeLogs(t *testing.T) {
	good := [][]byte{phaseBytes("a", 2, 1), entryBytes("a", refusal(0, 5, 2))}
	for what, wrong := range strange() {
		for _, more := range [][][]byte{nil, {phaseBytes("b", 2, 1), entryBytes("a", refusal(0, 7, 2))}, {wrong}} {
			list := append(slices.Concat(good, [][]byte{wrong}), more...)
			b := on(t, diskOf(t, 600, list...))
			sameRecords(t, what, b.d, good...)
			if b.s.Serial() != 2 || b.s.Room() != 299-2 || !slices.Equal(b.s.Names(), []string{"a"}) {
				t.Fatalf("%s: Serial %d, Room %d, Names %q", what, b.s.Serial(), b.s.Room(), b.s.Names())
			}
			if r := b.s.Repo("a"); r.Seq() != 1 || b.s.Phase("a") != (phase.Phase{State: 2, Epoch: 1}) || b.s.Phase("b") != (phase.Phase{}) {
				t.Fatalf("%s: %v, %v", what, b.s.Phase("a"), r.Entries(0, 9))
			}
			b.comes(pushing("a", 1, bad(0, 8)), api.Malformed, nil)
			b.reopen()
			if b.s.Serial() != 2 {
				t.Fatalf("%s: it is laid anew once more", what)
			}
		}
		if what == "the last number" || what == "one below" {
			continue // they fit, if they are the first
		}
		b := on(t, diskOf(t, 600, wrong, good[0]))
		sameRecords(t, what, b.d)
		if b.s.Serial() != 2 || len(b.s.Names()) != 0 || b.s.Phase("a") != (phase.Phase{}) {
			t.Fatalf("%s, ahead of all: Serial %d, Names %q", what, b.s.Serial(), b.s.Names())
		}
	}
}

// What of a log is strange, but can be so, is so: just what the chapter tells is passed over.
func TestLogsThatAreSo(t *testing.T) {
	so := func(what string, names []string, list ...[]byte) *pair {
		t.Helper()
		b := on(t, diskOf(t, 200, list...))
		if b.s.Serial() != 1 || !slices.Equal(b.s.Names(), names) {
			t.Errorf("%s: Serial %d, Names %q", what, b.s.Serial(), b.s.Names())
		}
		sameRecords(t, what, b.d, list...)
		return b
	}
	refused := entryBytes("a", refusal(0, 5, 2))
	b := so("an epoch falls", []string{"a"}, phaseBytes("a", 2, 9), refused, phaseBytes("a", 3, 4))
	if b.s.Phase("a") != (phase.Phase{State: 3, Epoch: 4}) || b.s.Repo("a").Seq() != 1 {
		t.Errorf("%v", b.s.Phase("a"))
	}
	b = so("dropped, and serves", []string{"a"}, phaseBytes("a", 5, 1<<40), phaseBytes("a", 2, 1))
	b.comes(pushing("a", 1, bad(0, 1)), api.Malformed, nil)
	b = so("an entry behind a fence, and behind a tomb", []string{"a", "b"}, phaseBytes("a", 3, 1), refused, phaseBytes("b", 4, 1), entryBytes("b", refusal(0, 5, 2)))
	if b.s.Repo("a").Seq() != 1 || b.s.Repo("b").Seq() != 1 {
		t.Error("they have no entries")
	}
	b = so("an entry behind a drop", []string{"a"}, phaseBytes("a", 5, 1), refused)
	if b.s.Repo("a") != nil {
		t.Error("what is dropped is there")
	}
	b.come(doing("a", Stage, 1))
	b = so("the same phase again and again", []string{"a"}, phaseBytes("a", 1, 1), refused, phaseBytes("a", 1, 1), refused, phaseBytes("a", 1, 1))
	if b.s.Repo("a").Seq() != 0 {
		t.Error("it has entries")
	}
	var list [][]byte
	var many []string
	for k := range 12 {
		many = append(many, string(rune('a'+k)))
		list = append(list, phaseBytes(many[k], 2, 1))
	}
	b = so("more names than may be", many, list...)
	b.comes(doing("new", OpenUp, 1), 0, api.ErrFull)
	b.comes(doing("a", OpenUp, 2), 0, nil)
	b.comes(doing("l", Tomb, 2), 0, nil)
	b = so("absent", nil, phaseBytes("a", 0, 0))
	b.comes(doing("a", OpenUp, 1), 0, nil)
}

// A log may tell of entries of what is Absent: whoever opens that, they are the same ones ahead of a crash and behind it.
func TestEntriesOfWhatIsAbsent(t *testing.T) {
	refused := entryBytes("a", refusal(0, 5, 2))
	for what, list := range map[string][][]byte{
		"never there":      {refused},
		"absent again":     {phaseBytes("a", 2, 1), refused, phaseBytes("a", 0, 0)},
		"beside other one": {phaseBytes("b", 2, 1), refused, phaseBytes("c", 0, 0), entryBytes("c", refusal(0, 1, 2))},
	} {
		for laid := range 2 {
			d := diskOf(t, 24, list...)
			b := on(t, d)
			if b.s.Repo("a") != nil || b.s.Phase("a") != (phase.Phase{}) || slices.Contains(b.s.Names(), "a") {
				t.Fatalf("%s: it is there", what)
			}
			b.comes(pushing("a", 0, bad(0, 9)), 0, api.ErrDown)
			b.comes(applying("a", refusal(0, 9, 2)), 0, api.ErrState)
			for e := 1; laid == 1 && b.s.Serial() == 1; e++ {
				b.come(doing("x", OpenUp, e))
			}
			b.come(doing("a", OpenUp, 1))
			if n := b.s.Repo("a").Seq(); n != 1-laid {
				t.Errorf("%s: %d entries", what, n)
			}
			b.apart()
			b.come(pushing("a", 1, bad(0, 9)))
			b.reopen()
		}
	}
}

// Logs of which each record is one of many, right ones and wrong ones.
func TestMadeUpLogs(t *testing.T) {
	wrong := strange()
	var kinds []string
	for what := range wrong {
		kinds = append(kinds, what)
	}
	slices.Sort(kinds)
	laid := 0
	for seed := range 400 {
		c := &chance{uint64(seed)}
		var list [][]byte
		for range 12 {
			name := string(rune('a' + c.below(3)))
			switch c.below(20) {
			case 0:
				list = append(list, wrong[kinds[c.below(len(kinds))]])
			case 1, 2, 3, 4, 5, 6, 7:
				state := c.below(6)
				list = append(list, phaseBytes(name, state, min(state, 1)*(1+c.below(4))))
			default:
				state, _ := stateOf(list)
				e := c.entry(state[name].repo)
				if entry.Right(e) {
					list = append(list, entryBytes(name, e))
				}
			}
		}
		b := on(t, diskOf(t, 600, list...))
		if _, n := stateOf(list); n < len(list) {
			laid++
			sameRecords(t, fmt.Sprint("seed ", seed), b.d, anew(b.p.state())...)
		}
		for range 6 {
			b.come(c.call(b.s, []string{"a", "b", "c"}))
		}
		b.reopen()
	}
	if laid < 50 || laid > 350 {
		t.Errorf("just %d of 400 logs were laid anew", laid)
	}
}

// When the power fails within a call, its answer is ErrDown, and all are that from then on; what is asked is as it was.
func TestDeadShelf(t *testing.T) {
	for _, c := range []call{
		doing("a", OpenUp, 2), doing("new", Stage, 1), applying("s", refusal(0, 1, 2)), pushing("a", 1, bad(0, 100)),
		pushing("a", 1, ask(1, 1, moves(move("refs/a", nil, x)), x)),
	} {
		for _, room := range []int{0, 5} {
			for power := range 2 {
				b := filled(t, room)
				was := seen(b.s)
				do(t, b.d.Arm(power))
				do(t, b.p.disk.Arm(power))
				b.come(c)
				for range 2 { // with the power off, and then with it on
					for _, c := range []call{
						c, doing("a", OpenUp, 3), doing("a-", OpenUp, 3), doing("a", 9, 3), doing("a", OpenUp, 0), doing("a", OpenUp, 1),
						applying("s", refusal(0, 9, 2)), applying("", refusal(0, 9, 2)), applying("a", refusal(0, 9, 2)), applying("s", entry.Entry{}),
						pushing("a", 1, bad(0, 1)), pushing("a", 1, bad(0, 101)), pushing("A", 1, bad(0, 1)), pushing("a", 0, bad(0, 1)), pushing("a", 1, bad(9, 1)),
					} {
						b.comes(c, 0, api.ErrDown)
					}
					if !b.s.Dead() || b.s.Room() != room || b.s.Serial() != 1 || seen(b.s) != was {
						t.Fatalf("%v: Dead %v, Room %d, Serial %d, %s", c, b.s.Dead(), b.s.Room(), b.s.Serial(), seen(b.s))
					}
					b.d.Crash(nil)
					b.p.disk.Crash(nil)
				}
				b.reopen()
				if seen(b.s) != was {
					t.Fatalf("%v: opened anew: %s", c, seen(b.s))
				}
			}
		}
	}
}

// The power fails beside the shelf: its next call that has something to write down is told so.
func TestPowerThatFailsBetweenCalls(t *testing.T) {
	for _, c := range []call{doing("a", OpenUp, 2), applying("s", refusal(0, 1, 2)), pushing("a", 1, bad(0, 100))} {
		for _, room := range []int{0, 5} {
			b := filled(t, room)
			was := seen(b.s)
			off(t, b.d)
			off(t, b.p.disk)
			b.come(doing("a", OpenUp, 1), doing("-", OpenUp, 1), applying("a", refusal(0, 1, 2)), pushing("a", 1, bad(0, 1)), pushing("a", 0, bad(0, 1)))
			if b.s.Dead() {
				t.Fatal("it is dead, though nothing was written")
			}
			b.comesOnce(c, 0, api.ErrDown)
			if !b.s.Dead() {
				t.Fatal("it isn't dead")
			}
			b.come(doing("a", OpenUp, 1), doing("-", OpenUp, 1), pushing("a", 1, bad(0, 1)))
			b.crash(nil)
			if seen(b.s) != was {
				t.Fatalf("%v: opened anew: %s", c, seen(b.s))
			}
		}
	}
	b := filled(t, 5)
	b.d.Crash(nil) // it came again at once, and nothing was pending
	b.p.disk.Crash(nil)
	b.come(doing("a", OpenUp, 2), pushing("a", 2, bad(0, 100)))
	b.reopen()
}

// choices is what may be kept of so many writes: all choices, if they are few.
func choices(n int) [][]bool {
	var list [][]bool
	if n <= 4 {
		for k := range 1 << n {
			keep := make([]bool, n)
			for i := range keep {
				keep[i] = k>>i&1 == 1
			}
			list = append(list, keep)
		}
		return list
	}
	for k := range n + 1 {
		one, allBut, upTo := make([]bool, n), slices.Repeat([]bool{true}, n), make([]bool, n)
		if k < n {
			one[k], allBut[k] = true, false
		}
		for i := range k {
			upTo[i] = true
		}
		list = append(list, one, allBut, upTo)
	}
	return list
}

// failing does a call with power for each number of deeds; whatever is kept then, the shelf opened anew is as it was, or as it would have been.
func failing(t *testing.T, what string, d *disk.Disk, c call) {
	t.Helper()
	s := opened(t, d.Copy())
	was := seen(s)
	e := d.Copy()
	s = opened(t, e)
	deeds := e.Deeds()
	_, fault := c.on(s)
	would, all := seen(s), e.Deeds()-deeds
	old, new := 0, 0
	for n := range all + 1 {
		e := d.Copy()
		s := opened(t, e)
		do(t, e.Arm(n))
		got, err := c.on(s)
		if n < all && (got != 0 || !errors.Is(err, api.ErrDown)) || n == all && !sameError(err, fault) {
			t.Fatalf("%s, %v with power for %d of %d deeds: %d, %v", what, c, n, all, got, err)
		}
		if s.Dead() != (n < all) || n < all && seen(s) != was || n == all && seen(s) != would {
			t.Fatalf("%s, %v with power for %d of %d deeds: Dead %v, %s", what, c, n, all, s.Dead(), seen(s))
		}
		for _, keep := range choices(e.Pending()) {
			e := e.Copy()
			e.Crash(keep)
			b := on(t, e)
			got := seen(b.s)
			if got != was && got != would || n == all && got != would {
				t.Fatalf("%s, %v with power for %d of %d deeds, %v kept: %s, neither %s nor %s", what, c, n, all, keep, got, was, would)
			}
			if got == was {
				old++
			}
			if got == would {
				new++
			}
			b.come(c, doing("a", OpenUp, 1<<39), pushing("a", 1<<39, bad(7, 1)))
			b.crash(nil)
		}
	}
	if old == 0 || new == 0 {
		t.Fatalf("%s, %v: %d times as it was, %d times as it would have been", what, c, old, new)
	}
}

func TestWhereverThePowerFails(t *testing.T) {
	for _, sectors := range []int{200, 2 * 18} {
		d := started(t, sectors,
			doing("a", OpenUp, 1), pushing("a", 1, ask(0, 1, moves(move("refs/a", nil, x)), x)),
			doing("s", Stage, 1), applying("s", refusal(0, 1, 2)), doing("s", Stage, 2), applying("s", refusal(1, 1, 2)),
			doing("f", OpenUp, 1), doing("f", Fence, 1), doing("t", OpenUp, 1), pushing("t", 1, bad(0, 1)), doing("t", Tomb, 2),
			doing("g", OpenUp, 1), doing("g", Tomb, 2), doing("g", Drop, 0),
		).d
		if sectors == 36 && opened(t, d.Copy()).Room() != 0 {
			t.Fatalf("Room %d", opened(t, d.Copy()).Room())
		}
		for _, c := range []call{
			doing("new", OpenUp, 1), doing("new", Stage, 1), doing("a", OpenUp, 2), doing("a", Fence, 1), doing("a", Tomb, 2),
			doing("s", Stage, 3), doing("s", OpenUp, 3), doing("f", OpenUp, 2), doing("f", Stage, 2), doing("t", Drop, 0), doing("t", Stage, 2), doing("g", Stage, 2),
			applying("s", refusal(1, 2, 3)), applying("s", done(1, 2, moves(move("refs/a", nil, x)), x)),
			pushing("a", 1, bad(0, 2)), pushing("a", 1, ask(0, 2, moves(move("refs/a", x, nil), move("refs/b", nil, y)), y)),
		} {
			failing(t, fmt.Sprint(sectors, " sectors"), d, c)
		}
	}
}

// A call that is refused for want of room lays the log anew: wherever the power fails in it, all stays.
func TestWhereverThePowerFailsWithoutRoom(t *testing.T) {
	d := filled(t, 0).d
	for _, c := range []call{doing("a", OpenUp, 2), applying("s", refusal(0, 1, 2)), pushing("a", 1, bad(0, 100))} {
		failing(t, "no room", d, c)
	}
}

// The power fails while a shelf is opened, and its log laid anew.
func TestWhereverThePowerFailsInOpen(t *testing.T) {
	good := [][]byte{phaseBytes("a", 2, 1), entryBytes("a", done(0, 5, moves(move("refs/a", nil, x)), x)), phaseBytes("b", 1, 1)}
	for what, list := range map[string][][]byte{
		"a new disk":     nil,
		"a right log":    good,
		"a strange log":  append(slices.Clip(good), []byte("?"), good[0]),
		"all is strange": {[]byte("?"), good[0]},
	} {
		d := made(t, 40)
		if list != nil {
			d = diskOf(t, 40, list...)
		}
		e := d.Copy()
		want := seen(opened(t, e))
		all := e.Deeds() - d.Deeds()
		for n := range all + 1 {
			e := d.Copy()
			do(t, e.Arm(n))
			s, err := Open(e)
			if (s == nil) != (n < all) || (err == nil) != (n == all) || err != nil && !errors.Is(err, api.ErrDown) {
				t.Fatalf("%s, with power for %d of %d deeds: %v, %v", what, n, all, s, err)
			}
			for _, keep := range choices(e.Pending()) {
				e := e.Copy()
				e.Crash(keep)
				if b := on(t, e); seen(b.s) != want {
					t.Fatalf("%s, with power for %d of %d deeds: %s, not %s", what, n, all, seen(b.s), want)
				}
			}
		}
	}
}

// All orders of four of some calls, on a disk on which the log is laid anew now and then.
func TestShortOrders(t *testing.T) {
	few := []call{
		doing("a", Stage, 1), doing("a", OpenUp, 1), doing("a", OpenUp, 2), doing("a", Fence, 1), doing("a", Tomb, 2), doing("a", Drop, 0), doing("b", OpenUp, 1),
		applying("a", done(1, 1, moves(move("refs/a", nil, x)), x)), pushing("a", 1, bad(0, 1)), pushing("a", 2, bad(0, 2)),
	}
	laid := 0
	for order := range 10 * 10 * 10 * 10 {
		b := started(t, 2*6, few[order%10], few[order/10%10], few[order/100%10], few[order/1000])
		laid += b.s.Serial() - 1
		b.reopen()
	}
	if laid == 0 {
		t.Error("the log was never laid anew")
	}
}

// Long orders, without and with power that fails.
func TestLongOrders(t *testing.T) {
	names := []string{"a", "b", "c", "d-4", "e5", "f", "abcdefghijkl", "h", "i", "j"}
	answers, faults, laid, broken := map[int]int{}, map[error]int{}, 0, 0
	for seed := range 150 {
		c := &chance{uint64(seed)}
		sectors := []int{16, 40, 80, 160, 400}[c.below(5)]
		some := names[:1+c.below(len(names))]
		b := on(t, made(t, sectors))
		for range 120 {
			switch c.below(12) {
			case 0:
				b.reopen()
				continue
			case 1:
				was := seen(b.s)
				n := c.below(8)
				do(t, b.d.Arm(n))
				do(t, b.p.disk.Arm(n))
				b.come(c.call(b.s, some))
				would := seen(b.s)
				if b.s.Dead() {
					broken++
					would = seen(after(t, b.d))
				}
				b.crash(c.keep(b.d.Pending()))
				if got := seen(b.s); !b.s.Dead() && got != was && got != would {
					t.Fatalf("seed %d: opened anew: %s, neither %s nor %s", seed, got, was, would)
				}
				continue
			}
			serial, next := b.s.Serial(), c.call(b.s, some)
			got, err := b.come(next)
			if b.s.Serial() > serial {
				laid++
			}
			if next.kind == "Push" && err == nil {
				answers[got]++
			}
			faults[err]++
		}
		b.reopen()
	}
	for _, answer := range []int{api.OK, api.Malformed, api.CasMismatch, api.MissingObject} {
		if answers[answer] < 20 {
			t.Errorf("just %d pushes were answered %d", answers[answer], answer)
		}
	}
	for _, fault := range []error{nil, api.ErrName, api.ErrKind, api.ErrRange, api.ErrState, api.ErrStale, api.ErrDown, api.ErrFull, api.ErrQuota, api.ErrForm} {
		if faults[fault] < 10 {
			t.Errorf("just %d calls were answered %v", faults[fault], fault)
		}
	}
	if laid < 100 || broken < 100 {
		t.Errorf("just %d times laid anew, %d times broken", laid, broken)
	}
}

// after is the shelf that there is if all that is pending is kept.
func after(t *testing.T, d *disk.Disk) *Shelf {
	t.Helper()
	e := d.Copy()
	e.Crash(slices.Repeat([]bool{true}, e.Pending()))
	return opened(t, e)
}

func TestArgumentsAreNotChangedAndNotKept(t *testing.T) {
	room := bytes.Repeat([]byte("x"), 64)
	text := room[:2]
	text[0] = 'b'
	d := made(t, 100)
	s := opened(t, d)
	e := done(1, 1, moves(move("refs/a", nil, blob("x"))), text)
	do(t, s.Do("s", Stage, 1))
	do(t, s.Apply("s", e))
	updates := make([]api.Update, 1, 4)
	updates[0] = move("refs/a", nil, x)
	p := push.Push{Client: 1, Number: 1, Updates: updates, Pack: append(make([]byte, 0, 100), packOf(x)...)}
	do(t, s.Do("a", OpenUp, 1))
	if answer, err := s.Push("a", 1, p); answer != api.OK || err != nil {
		t.Fatalf("%d, %v", answer, err)
	}
	if !bytes.Equal(room, append([]byte("b"), bytes.Repeat([]byte("x"), 63)...)) || !entry.Same(e, done(1, 1, moves(move("refs/a", nil, x)), x)) {
		t.Error("Apply changed what it was given")
	}
	if !push.Same(p, ask(1, 1, moves(move("refs/a", nil, x)), x)) || updates[:2][1] != (api.Update{}) || !bytes.Equal(p.Pack[:100][len(p.Pack):], make([]byte, 100-len(p.Pack))) {
		t.Error("Push changed what it was given")
	}
	was := seen(s)
	clear(room)
	e.Updates[0] = api.Update{}
	e.Objects[0] = nil
	updates[0] = api.Update{}
	clear(p.Pack)
	if seen(s) != was || seen(opened(t, d)) != was {
		t.Errorf("%s, not %s", seen(s), was)
	}
}

func TestAnswersAreTheCallers(t *testing.T) {
	b := started(t, 100, doing("a", OpenUp, 1), pushing("a", 1, ask(0, 1, moves(move("refs/a", nil, x)), x)), doing("b", Stage, 1), applying("b", refusal(0, 1, 2)))
	for range 2 {
		list := b.s.Names()
		list[0] = "z"
		_ = append(list[:1], "z")
		r := b.s.Repo("a")
		do(t, r.Apply(done(1, 1, moves(move("refs/a", x, y)), y)))
		r.Objects()[0][0] = 'z'
		r.Entries(0, 1)[0].Objects[0][0] = 'z'
		do(t, b.s.Repo("b").Apply(refusal(0, 2, 2)))
		b.alike("answers were written over")
		b.come(pushing("a", 1, bad(2, b.s.Repo("a").Seq())), applying("b", refusal(1, b.s.Repo("b").Seq(), 2)))
		if r.Seq() != 1+b.s.Repo("a").Seq()-1 {
			t.Errorf("an answer has %d entries", r.Seq())
		}
		b.reopen()
	}
}

// A Shelf that wasn't opened has no sectors; none of its calls panics.
func TestShelfThatWasNotOpened(t *testing.T) {
	var s Shelf
	refused(t, "Do", s.Do("a", OpenUp, 1), api.ErrQuota)
	refused(t, "Do of no name", s.Do("", OpenUp, 1), api.ErrName)
	refused(t, "Do of no event", s.Do("a", 5, 1), api.ErrKind)
	refused(t, "Do of another one", s.Do("a", Drop, 1), api.ErrState)
	refused(t, "Apply", s.Apply("a", refusal(0, 1, 2)), api.ErrState)
	for stamp, want := range map[int]error{-1: api.ErrStale, 0: api.ErrDown, 1: api.ErrDown} {
		answer, err := s.Push("a", stamp, bad(0, 1))
		refused(t, "Push", err, want)
		if answer != 0 {
			t.Errorf("Push: %d", answer)
		}
	}
	if s.Phase("a") != (phase.Phase{}) || s.Repo("a") != nil || len(s.Names()) != 0 || s.Room() != 0 || s.Serial() != 0 || s.Dead() {
		t.Errorf("%v, %v, %q, Room %d, Serial %d, Dead %v", s.Phase("a"), s.Repo("a"), s.Names(), s.Room(), s.Serial(), s.Dead())
	}
}

// A repository that is told by Repo is the one that its entries make.
func TestRepo(t *testing.T) {
	b := started(t, 200, doing("a", OpenUp, 1))
	r := repo.New()
	for k := range 6 {
		p := ask(k%3, 1+k, moves(move("refs/"+string(rune('a'+k)), nil, x)), x)
		if k%2 == 1 {
			p = bad(k%3, 1+k)
		}
		answer, is, err := push.Do(r, p)
		if !is || err != nil {
			t.Fatal(err)
		}
		b.comes(pushing("a", 1, p), answer, nil)
		sameRepo(t, "behind a push", b.s.Repo("a"), r)
	}
}
