package disk

import (
	"bytes"
	"errors"
	"math"
	"math/rand/v2"
	"slices"
	"strings"
	"testing"

	"cartage/api"
)

// plain is a disk as the chapter tells it, with no thought of cost: what Disk is held against.
type plain struct {
	safe    [][]byte
	pending []plainWrite
	off     bool
	left    int // -1: not armed
	deeds   int
}

type plainWrite struct {
	at   int
	what []byte
}

func newPlain(sectors int) *plain {
	p := &plain{left: -1}
	for range sectors {
		p.safe = append(p.safe, make([]byte, 32))
	}
	return p
}

func (p *plain) read(i int) ([]byte, error) {
	if p.off {
		return nil, api.ErrDown
	}
	b, err := p.readSafe(i)
	for _, w := range p.pending {
		if w.at == i {
			b = w.what
		}
	}
	return b, err
}

func (p *plain) readSafe(i int) ([]byte, error) {
	if i < 0 || i >= len(p.safe) {
		return nil, api.ErrRange
	}
	return p.safe[i], nil
}

func (p *plain) deed() error {
	if p.left == 0 {
		p.off = true
		return api.ErrDown
	}
	if p.left > 0 {
		p.left--
	}
	p.deeds++
	return nil
}

func (p *plain) write(i int, b []byte) error {
	if p.off {
		return api.ErrDown
	}
	if i < 0 || i >= len(p.safe) {
		return api.ErrRange
	}
	if len(b) > 32 {
		return api.ErrLong
	}
	if err := p.deed(); err != nil {
		return err
	}
	what := make([]byte, 32)
	copy(what, b)
	p.pending = append(p.pending, plainWrite{i, what})
	return nil
}

func (p *plain) sync() error {
	if p.off {
		return api.ErrDown
	}
	if err := p.deed(); err != nil {
		return err
	}
	for _, w := range p.pending {
		p.safe[w.at] = w.what
	}
	p.pending = nil
	return nil
}

func (p *plain) arm(deeds int) error {
	if deeds < 0 {
		return api.ErrRange
	}
	if p.off {
		return api.ErrDown
	}
	p.left = deeds
	return nil
}

func (p *plain) crash(keep []bool) int {
	n := 0
	for k, w := range p.pending {
		if k < len(keep) && keep[k] {
			p.safe[w.at] = w.what
			n++
		}
	}
	p.pending, p.off, p.left = nil, false, -1
	return n
}

func (p *plain) copy() *plain {
	q := *p
	q.safe = slices.Clone(p.safe) // no sector and no write is ever changed in its place
	q.pending = slices.Clone(p.pending)
	return &q
}

// made is a disk that can be made.
func made(t *testing.T, sectors int) *Disk {
	t.Helper()
	d, err := New(sectors)
	if err != nil || d == nil {
		t.Fatalf("New of %d sectors: %v", sectors, err)
	}
	return d
}

// do fails where a call that can be done answers an error.
func do(t *testing.T, err error) {
	t.Helper()
	if err != nil {
		t.Fatal(err)
	}
}

// refused fails where a call doesn't answer just this error.
func refused(t *testing.T, what string, err, want error) {
	t.Helper()
	if !errors.Is(err, want) {
		t.Errorf("%s: %v, not %v", what, err, want)
	}
}

// text is a sector that begins so, and noughts behind.
func text(s string) []byte { return []byte(s + strings.Repeat("\x00", 32-len(s))) }

func sees(t *testing.T, d *Disk, i int, want string) {
	t.Helper()
	if b, err := d.Read(i); err != nil || !bytes.Equal(b, text(want)) {
		t.Errorf("sector %d is seen as %q, %v, not as %q", i, b, err, want)
	}
}

func hasSafe(t *testing.T, d *Disk, i int, want string) {
	t.Helper()
	if b, err := d.Safe(i); err != nil || !bytes.Equal(b, text(want)) {
		t.Errorf("sector %d is safe as %q, %v, not as %q", i, b, err, want)
	}
}

func sameError(a, b error) bool {
	return a == nil && b == nil || a != nil && b != nil && errors.Is(a, b)
}

// alike fails where a disk tells of itself otherwise than the plain one: all sectors, and some beside them.
func alike(t *testing.T, d *Disk, p *plain, told string) {
	t.Helper()
	for i := -1; i <= len(p.safe); i++ {
		got, err := d.Read(i)
		want, wantErr := p.read(i)
		if !bytes.Equal(got, want) || !sameError(err, wantErr) || (got == nil) != (wantErr != nil) {
			t.Fatalf("%s: Read(%d): %q, %v, not %q, %v", told, i, got, err, want, wantErr)
		}
		got, err = d.Safe(i)
		want, wantErr = p.readSafe(i)
		if !bytes.Equal(got, want) || !sameError(err, wantErr) || (got == nil) != (wantErr != nil) {
			t.Fatalf("%s: Safe(%d): %q, %v, not %q, %v", told, i, got, err, want, wantErr)
		}
	}
	if d.Pending() != len(p.pending) || d.Off() != p.off || d.Size() != len(p.safe) || d.Deeds() != p.deeds {
		t.Fatalf("%s: Pending %d, Off %v, Size %d, Deeds %d, not %d, %v, %d, %d", told,
			d.Pending(), d.Off(), d.Size(), d.Deeds(), len(p.pending), p.off, len(p.safe), p.deeds)
	}
}

func TestNewOfEachNumberOfSectors(t *testing.T) {
	for n := -3; n <= 5000; n++ {
		d, err := New(n)
		right := n >= 2 && n <= 4096
		switch {
		case right && (err != nil || d == nil || d.Size() != n):
			t.Fatalf("New of %d sectors: %v", n, err)
		case !right && (d != nil || !errors.Is(err, api.ErrRange)):
			t.Fatalf("New of %d sectors: %v, %v", n, d, err)
		}
	}
	for _, n := range []int{math.MinInt, math.MaxInt, 1 << 31, 1<<32 + 2, -1 << 32} {
		if d, err := New(n); d != nil || !errors.Is(err, api.ErrRange) {
			t.Errorf("New of %d sectors: %v, %v", n, d, err)
		}
	}
}

func TestNewIsAllNoughts(t *testing.T) {
	for _, n := range []int{2, 3, 4096} {
		alike(t, made(t, n), newPlain(n), "a new disk")
	}
}

func TestSectorsAreWrittenApart(t *testing.T) {
	d := made(t, 4096)
	for i := range 4096 {
		do(t, d.Write(i, []byte{byte(i), byte(i >> 8), 7}))
	}
	for i := range 4096 {
		sees(t, d, i, string([]byte{byte(i), byte(i >> 8), 7}))
		hasSafe(t, d, i, "")
	}
	if d.Pending() != 4096 {
		t.Errorf("%d writes are pending", d.Pending())
	}
	do(t, d.Sync())
	for i := range 4096 {
		sees(t, d, i, string([]byte{byte(i), byte(i >> 8), 7}))
		hasSafe(t, d, i, string([]byte{byte(i), byte(i >> 8), 7}))
	}
	if d.Pending() != 0 || d.Deeds() != 4097 {
		t.Errorf("%d writes are pending, behind %d deeds", d.Pending(), d.Deeds())
	}
}

func TestWriteOfEachLength(t *testing.T) {
	full := strings.Repeat("x", 32)
	for n := range 100 {
		d := made(t, 2)
		do(t, d.Write(1, []byte(full)))
		do(t, d.Sync())
		err := d.Write(1, bytes.Repeat([]byte{'y'}, n))
		if n > 32 {
			refused(t, "Write of too many bytes", err, api.ErrLong)
			sees(t, d, 1, full)
			continue
		}
		do(t, err)
		sees(t, d, 1, strings.Repeat("y", n)) // noughts behind, not what stood there
		hasSafe(t, d, 1, full)
		do(t, d.Sync())
		hasSafe(t, d, 1, strings.Repeat("y", n))
	}
	d := made(t, 2)
	do(t, d.Write(0, []byte("a")))
	do(t, d.Write(0, nil))
	sees(t, d, 0, "")
}

func TestLastWriteIsSeen(t *testing.T) {
	d := made(t, 3)
	for _, s := range []string{"a", "bb", "", "c", "", "d"} {
		do(t, d.Write(2, []byte(s)))
		sees(t, d, 2, s)
		sees(t, d, 1, "")
		hasSafe(t, d, 2, "")
	}
	do(t, d.Sync())
	hasSafe(t, d, 2, "d")
	do(t, d.Write(2, nil))
	do(t, d.Sync())
	sees(t, d, 2, "")
	hasSafe(t, d, 2, "")
}

func TestNoSuchSector(t *testing.T) {
	d := made(t, 3)
	do(t, d.Arm(0))
	for _, i := range []int{-1, 3, 4, 4096, -3, math.MinInt, math.MaxInt, 1 << 32} {
		b, err := d.Read(i)
		refused(t, "Read", err, api.ErrRange)
		s, err := d.Safe(i)
		refused(t, "Safe", err, api.ErrRange)
		if b != nil || s != nil {
			t.Errorf("bytes of sector %d: %v, %v", i, b, s)
		}
		refused(t, "Write", d.Write(i, nil), api.ErrRange)
		refused(t, "Write of too much", d.Write(i, make([]byte, 33)), api.ErrRange)
	}
	refused(t, "Write of too much", d.Write(2, make([]byte, 33)), api.ErrLong)
	alike(t, d, newPlain(3), "behind calls that could not be done") // none of them was a deed: the power is on
}

func TestDownComesFirst(t *testing.T) {
	d := made(t, 3)
	do(t, d.Write(1, []byte("a")))
	do(t, d.Sync())
	do(t, d.Write(1, []byte("b")))
	do(t, d.Arm(0))
	refused(t, "Sync", d.Sync(), api.ErrDown)
	for i := -1; i <= 3; i++ {
		b, err := d.Read(i)
		refused(t, "Read", err, api.ErrDown)
		if b != nil {
			t.Errorf("Read has %v with the power off", b)
		}
		refused(t, "Write", d.Write(i, nil), api.ErrDown)
		refused(t, "Write of too much", d.Write(i, make([]byte, 33)), api.ErrDown)
	}
	refused(t, "Sync", d.Sync(), api.ErrDown)
	refused(t, "Arm", d.Arm(0), api.ErrDown)
	refused(t, "Arm", d.Arm(5), api.ErrDown)
	refused(t, "Arm below 0", d.Arm(-1), api.ErrRange)
	_, err := d.Safe(3)
	refused(t, "Safe", err, api.ErrRange)
	hasSafe(t, d, 0, "")
	hasSafe(t, d, 1, "a")
	if !d.Off() || d.Pending() != 1 || d.Deeds() != 3 || d.Size() != 3 {
		t.Errorf("Off %v, Pending %d, Deeds %d, Size %d", d.Off(), d.Pending(), d.Deeds(), d.Size())
	}
}

func TestArmedDoesSoManyMore(t *testing.T) {
	for n := range 8 {
		for syncs := range 1 << (n + 1) { // which of the deeds are syncs
			d, p := made(t, 4), newPlain(4)
			do(t, d.Write(3, []byte("z")))
			do(t, p.write(3, []byte("z")))
			do(t, d.Arm(n))
			do(t, p.arm(n))
			for k := range n + 1 {
				var err, want error
				if syncs>>k&1 == 1 {
					err, want = d.Sync(), p.sync()
				} else {
					err, want = d.Write(k%4, []byte{byte(k + 1)}), p.write(k%4, []byte{byte(k + 1)})
				}
				if (err == nil) != (k < n) || !sameError(err, want) {
					t.Fatalf("armed by %d: deed %d (of %b): %v", n, k, syncs, err)
				}
				alike(t, d, p, "armed")
			}
			if !d.Off() || d.Deeds() != n+1 {
				t.Fatalf("armed by %d: Off %v, Deeds %d", n, d.Off(), d.Deeds())
			}
		}
	}
}

func TestArmAnew(t *testing.T) {
	d := made(t, 2)
	do(t, d.Arm(1))
	do(t, d.Arm(3))
	for range 3 {
		do(t, d.Write(0, []byte("a")))
	}
	do(t, d.Arm(1)) // there was none left
	refused(t, "Arm below 0", d.Arm(-1), api.ErrRange)
	refused(t, "Arm below 0", d.Arm(math.MinInt), api.ErrRange)
	do(t, d.Sync()) // armed by 1 even so
	refused(t, "Sync", d.Sync(), api.ErrDown)
	d.Crash(nil)
	refused(t, "Arm below 0", d.Arm(-1), api.ErrRange) // and not armed by it
	do(t, d.Arm(math.MaxInt))
	for range 100 {
		do(t, d.Write(1, []byte("b")))
		do(t, d.Sync())
	}
	do(t, d.Arm(100))
	do(t, d.Arm(0))
	refused(t, "Write", d.Write(1, []byte("c")), api.ErrDown)
	if d.Deeds() != 204 {
		t.Errorf("%d deeds", d.Deeds())
	}
	hasSafe(t, d, 1, "b")
}

func TestArmedReadsAreNoDeeds(t *testing.T) {
	d := made(t, 2)
	do(t, d.Arm(1))
	for range 5 {
		sees(t, d, 0, "")
		hasSafe(t, d, 0, "")
		refused(t, "Write of too much", d.Write(0, make([]byte, 33)), api.ErrLong)
		refused(t, "Write beside", d.Write(2, nil), api.ErrRange)
		_, _, _ = d.Pending(), d.Size(), d.Copy()
	}
	do(t, d.Write(0, []byte("a")))
	refused(t, "Sync", d.Sync(), api.ErrDown)
}

func TestArmedWithNoneLeftReads(t *testing.T) {
	d := made(t, 2)
	do(t, d.Arm(1))
	do(t, d.Write(0, []byte("a")))
	sees(t, d, 0, "a")
	if d.Off() {
		t.Error("the power is off ahead of the deed that isn't done")
	}
}

func TestExample(t *testing.T) {
	d := made(t, 2)
	do(t, d.Write(0, []byte("a")))
	do(t, d.Arm(0))
	refused(t, "Sync", d.Sync(), api.ErrDown)
	if n := d.Crash(nil); n != 0 {
		t.Errorf("%d writes were kept", n)
	}
	for i := range 2 {
		sees(t, d, i, "")
		hasSafe(t, d, i, "")
	}
}

// Any of the pending writes may be kept; the order is theirs, not that of the sectors.
func TestCrashKeepsEachChoice(t *testing.T) {
	places := []int{2, 0, 2, 1, 0, 2}
	for choice := range 1 << len(places) {
		for _, off := range []bool{false, true} {
			d, p := made(t, 3), newPlain(3)
			do(t, d.Write(0, []byte("old")))
			do(t, p.write(0, []byte("old")))
			do(t, d.Sync())
			do(t, p.sync())
			var keep []bool
			kept := 0
			for k, i := range places {
				s := []string{"a", "b", "c", "d", "", "f"}[k]
				do(t, d.Write(i, []byte(s)))
				do(t, p.write(i, []byte(s)))
				keep = append(keep, choice>>k&1 == 1)
				kept += choice >> k & 1
			}
			if off {
				do(t, d.Arm(0))
				do(t, p.arm(0))
				refused(t, "Write", d.Write(1, []byte("never")), api.ErrDown)
				refused(t, "Write", p.write(1, []byte("never")), api.ErrDown)
			}
			if n := d.Crash(keep); n != kept || p.crash(keep) != kept {
				t.Fatalf("of %v %d writes were kept", keep, n)
			}
			alike(t, d, p, "behind the crash")
			do(t, d.Sync())
			do(t, p.sync())
			alike(t, d, p, "behind the next sync")
		}
	}
}

func TestCrashWithOtherLengths(t *testing.T) {
	for n := range 6 {
		d := made(t, 4)
		for i := range 3 {
			do(t, d.Write(i, []byte("a")))
		}
		if got := d.Crash(slices.Repeat([]bool{true}, n)); got != min(n, 3) {
			t.Errorf("with %d told %d writes were kept", n, got)
		}
		for i := range 4 {
			hasSafe(t, d, i, map[bool]string{true: "a"}[i < min(n, 3)])
		}
	}
	d := made(t, 2)
	if d.Crash([]bool{true, true}) != 0 || d.Crash(nil) != 0 || d.Off() || d.Deeds() != 0 {
		t.Error("a crash with nothing pending kept something, or is a deed")
	}
}

func TestCrashDisarms(t *testing.T) {
	for _, fails := range []bool{false, true} {
		d := made(t, 2)
		do(t, d.Arm(0))
		if fails {
			refused(t, "Sync", d.Sync(), api.ErrDown)
		}
		d.Crash(nil)
		for range 5 {
			do(t, d.Write(0, []byte("a")))
			do(t, d.Sync())
		}
		if d.Off() || d.Deeds() != 10 {
			t.Errorf("Off %v, Deeds %d", d.Off(), d.Deeds())
		}
	}
}

func TestCrashForgets(t *testing.T) {
	d := made(t, 2)
	do(t, d.Write(0, []byte("a")))
	d.Crash(nil)
	if d.Crash([]bool{true}) != 0 || d.Pending() != 0 {
		t.Error("what was lost is pending")
	}
	do(t, d.Write(1, []byte("b")))
	sees(t, d, 0, "")
	sees(t, d, 1, "b")
	if d.Crash([]bool{true}) != 1 {
		t.Error("writes aren't counted anew behind a crash")
	}
	hasSafe(t, d, 0, "")
	hasSafe(t, d, 1, "b")
}

func TestSyncCountsAnew(t *testing.T) {
	d := made(t, 2)
	do(t, d.Write(0, []byte("a")))
	do(t, d.Sync())
	do(t, d.Write(0, []byte("b")))
	do(t, d.Write(1, []byte("c")))
	if d.Crash([]bool{false, true, true}) != 1 {
		t.Error("the writes ahead of a sync count behind it")
	}
	hasSafe(t, d, 0, "a")
	hasSafe(t, d, 1, "c")
}

func TestCopyGoesOnApart(t *testing.T) {
	d, p := made(t, 3), newPlain(3)
	do(t, d.Write(0, []byte("a")))
	do(t, d.Sync())
	do(t, d.Write(1, []byte("b")))
	do(t, d.Arm(2))
	p.write(0, []byte("a"))
	p.sync()
	p.write(1, []byte("b"))
	p.arm(2)
	e := d.Copy()
	alike(t, e, p, "a copy")

	do(t, d.Write(1, []byte("c"))) // two writes pending behind the same two: they must not share their room
	do(t, e.Write(2, []byte("e")))
	q := p.copy()
	p.write(1, []byte("c"))
	q.write(2, []byte("e"))
	alike(t, d, p, "the first one")
	alike(t, e, q, "its copy")
	do(t, d.Sync())
	p.sync()
	alike(t, d, p, "the first one")
	alike(t, e, q, "its copy")
	refused(t, "Sync", d.Sync(), api.ErrDown)
	p.sync()
	f := d.Copy()
	r := p.copy()
	e.Crash([]bool{true, true})
	q.crash([]bool{true, true})
	alike(t, d, p, "the first one, off")
	alike(t, e, q, "its copy, on")
	alike(t, f, r, "a copy of the first one, off")
	f.Crash(nil)
	r.crash(nil)
	do(t, f.Write(0, nil))
	do(t, f.Sync())
	r.write(0, nil)
	r.sync()
	alike(t, d, p, "the first one, off")
	alike(t, e, q, "its copy, on")
	alike(t, f, r, "a copy of the first one, on")
}

func TestWriteChangesAndKeepsNothing(t *testing.T) {
	for n := range 40 {
		d := made(t, 2)
		room := bytes.Repeat([]byte{'x'}, 64)
		err := d.Write(1, room[:n])
		if !bytes.Equal(room, bytes.Repeat([]byte{'x'}, 64)) {
			t.Fatalf("Write of %d bytes changed them, or the room behind", n)
		}
		if n > 32 {
			refused(t, "Write of too much", err, api.ErrLong)
			continue
		}
		clear(room)
		sees(t, d, 1, strings.Repeat("x", n))
		do(t, d.Sync())
		hasSafe(t, d, 1, strings.Repeat("x", n))
	}
}

func TestAnswersAreTheCallers(t *testing.T) {
	d := made(t, 3)
	do(t, d.Write(0, []byte("a")))
	do(t, d.Sync())
	do(t, d.Write(1, []byte("b")))
	for range 2 {
		for i, seen := range []string{"a", "b", ""} {
			sees(t, d, i, seen)
			hasSafe(t, d, i, []string{"a", "", ""}[i])
			b, err := d.Read(i)
			do(t, err)
			s, err := d.Safe(i)
			do(t, err)
			for k := range b {
				b[k], s[k] = 'y', 'z'
			}
			_, _ = append(b, "yy"...), append(s, "zz"...)
			if !bytes.Equal(b, bytes.Repeat([]byte{'y'}, 32)) {
				t.Error("two answers share their bytes")
			}
		}
	}
	d.Crash([]bool{true})
	hasSafe(t, d, 1, "b")
}

func TestCrashChangesNotWhatItIsGiven(t *testing.T) {
	d := made(t, 2)
	do(t, d.Write(0, []byte("a")))
	do(t, d.Write(1, []byte("b")))
	keep := []bool{false, true, true, false}
	d.Crash(keep[:2])
	if !slices.Equal(keep, []bool{false, true, true, false}) {
		t.Errorf("the list is %v now", keep)
	}
}

// A disk that wasn't made has no sectors; none of its calls panics.
func TestDiskThatWasNotMade(t *testing.T) {
	var d Disk
	_, err := d.Read(0)
	refused(t, "Read", err, api.ErrRange)
	refused(t, "Write", d.Write(0, nil), api.ErrRange)
	e := d.Copy()
	do(t, e.Sync())
	do(t, e.Arm(0))
	refused(t, "Sync", e.Sync(), api.ErrDown)
	if e.Crash([]bool{true}) != 0 || e.Deeds() != 1 || d.Deeds() != 0 {
		t.Error("a disk of no sectors does otherwise than others")
	}
}

// step does one of the calls to both disks; number tells which one.
func step(t *testing.T, d *Disk, p *plain, number int) {
	t.Helper()
	var err, want error
	switch number {
	case 0:
		err, want = d.Write(0, []byte("a")), p.write(0, []byte("a"))
	case 1:
		err, want = d.Write(1, []byte("b")), p.write(1, []byte("b"))
	case 2:
		err, want = d.Write(0, nil), p.write(0, nil)
	case 3:
		err, want = d.Sync(), p.sync()
	case 4:
		err, want = d.Arm(1), p.arm(1)
	case 5:
		if got, n := d.Crash(nil), p.crash(nil); got != n {
			t.Fatalf("Crash: %d, not %d", got, n)
		}
	case 6:
		if got, n := d.Crash([]bool{false, true}), p.crash([]bool{false, true}); got != n {
			t.Fatalf("Crash: %d, not %d", got, n)
		}
	case 7:
		*d = *d.Copy()
	}
	if !sameError(err, want) {
		t.Fatalf("call %d: %v, not %v", number, err, want)
	}
}

func TestEachShortOrder(t *testing.T) {
	const calls, length = 8, 5
	for order := range 1 << (3 * length) {
		d, p := made(t, 2), newPlain(2)
		for k := range length {
			step(t, d, p, order>>(3*k)%calls)
		}
		alike(t, d, p, "behind five calls")
	}
}

// turn does a call of any kind, with any numbers, to both disks.
func turn(t *testing.T, r *rand.Rand, d *Disk, p *plain) {
	t.Helper()
	var err, want error
	switch k := r.IntN(20); {
	case k < 11:
		i, b := r.IntN(len(p.safe)+2)-1, make([]byte, r.IntN(36))
		for k := range b {
			b[k] = byte(r.IntN(3))
		}
		err, want = d.Write(i, b), p.write(i, b)
	case k < 14:
		err, want = d.Sync(), p.sync()
	case k < 16:
		n := r.IntN(12) - 1
		err, want = d.Arm(n), p.arm(n)
	case k < 19:
		keep := make([]bool, r.IntN(2*len(p.pending)+2))
		for k := range keep {
			keep[k] = r.IntN(2) == 0
		}
		if got, n := d.Crash(keep), p.crash(keep); got != n {
			t.Fatalf("Crash: %d, not %d", got, n)
		}
	default:
		*d = *d.Copy()
	}
	if !sameError(err, want) {
		t.Fatalf("%v, not %v", err, want)
	}
}

func TestLongOrders(t *testing.T) {
	for seed := range uint64(60) {
		r := rand.New(rand.NewPCG(seed, 4))
		n := 2 + r.IntN(9)
		d, p := made(t, n), newPlain(n)
		e, q := d.Copy(), p.copy()
		for range 500 {
			turn(t, r, d, p)
			alike(t, d, p, "the one that goes on")
			if r.IntN(50) == 0 {
				e, q = d.Copy(), p.copy()
			}
			if r.IntN(10) == 0 {
				turn(t, r, e, q)
			}
			alike(t, e, q, "its copy")
		}
	}
}
