package halves

import (
	"crypto/sha256"
	"encoding/binary"
	"errors"
	"slices"
	"testing"

	"cartage/api"
	"cartage/disk"
)

type sector = [32]byte

// deed is a write, or (at -1) a sync.
type deed struct {
	at   int
	what sector
}

// plain is a log as the chapter tells it, on sectors as they are seen: what Log is held against. It writes down its deeds.
type plain struct {
	seen    []sector
	deeds   []deed
	first   int // the half in use
	serial  uint64
	next    int // sector, from the disk's first one on
	records [][]byte
}

func plainHead(serial uint64, state byte) sector {
	var s sector
	binary.BigEndian.PutUint64(s[:], serial)
	s[8] = state
	sum := sha256.Sum256(append([]byte("head"), s[:9]...))
	copy(s[9:], sum[:8])
	return s
}

func plainRecord(serial, ahead uint64, b []byte) []sector {
	said := binary.BigEndian.AppendUint64([]byte("record"), serial)
	said = binary.BigEndian.AppendUint64(said, ahead)
	sum := sha256.Sum256(append(said, b...))
	all := binary.BigEndian.AppendUint16(nil, uint16(len(b)))
	all = append(append(all, sum[:8]...), b...)
	var list []sector
	for part := range slices.Chunk(all, 32) {
		var s sector
		copy(s[:], part)
		list = append(list, s)
	}
	return list
}

// rightHead is a head's serial and state: 0 and 0 of one that isn't right.
func rightHead(s sector) (uint64, byte) {
	serial := binary.BigEndian.Uint64(s[:])
	if serial < 1 || serial > 1<<40 {
		return 0, 0
	}
	for state := byte(1); state <= 2; state++ {
		if s == plainHead(serial, state) {
			return serial, state
		}
	}
	return 0, 0
}

func (p *plain) half() int { return len(p.seen) / 2 }

func (p *plain) room() int { return p.first + p.half() - p.next }

func (p *plain) write(at int, what sector) {
	p.seen[at] = what
	p.deeds = append(p.deeds, deed{at, what})
}

func (p *plain) sync() { p.deeds = append(p.deeds, deed{at: -1}) }

func (p *plain) wipe(from, to int) {
	for i := from; i < to; i++ {
		if p.seen[i] != (sector{}) {
			p.write(i, sector{})
		}
	}
}

func (p *plain) nextSerial() uint64 {
	one, _ := rightHead(p.seen[0])
	two, _ := rightHead(p.seen[p.half()])
	return max(one, two) + 1
}

func (p *plain) begin(first int, serial uint64) {
	p.write(first, plainHead(serial, 1))
	p.sync()
	p.wipe(first+1, first+p.half())
	p.sync()
}

func (p *plain) whole(first int, serial uint64) {
	p.write(first, plainHead(serial, 2))
	p.sync()
}

// recordAt is the record that begins at a sector; false, if none is right there.
func (p *plain) recordAt(at, end int) ([]byte, bool) {
	if at >= end {
		return nil, false
	}
	n := int(binary.BigEndian.Uint16(p.seen[at][:]))
	if n < 1 || n > 3000 || at+(n+41)/32 > end {
		return nil, false
	}
	var all []byte
	for _, s := range p.seen[at : at+(n+41)/32] {
		all = append(all, s[:]...)
	}
	b := slices.Clone(all[10 : 10+n])
	return b, slices.Equal(p.seen[at:at+(n+41)/32], plainRecord(p.serial, uint64(len(p.records)), b))
}

// open goes by the sectors; the plain log is what it was but for them.
func (p *plain) open() error {
	*p = plain{seen: p.seen}
	h := p.half()
	one, oneState := rightHead(p.seen[0])
	two, twoState := rightHead(p.seen[h])
	switch {
	case oneState != 2 && twoState != 2:
		if max(one, two) == 1<<40 {
			return api.ErrQuota
		}
		p.serial = p.nextSerial()
		p.begin(0, p.serial)
		p.whole(0, p.serial)
	case oneState != 2 || twoState == 2 && two > one:
		p.first, p.serial = h, two
	default:
		p.serial = one
	}
	p.next = p.first + 1
	for b, ok := p.recordAt(p.next, p.first+h); ok; b, ok = p.recordAt(p.next, p.first+h) {
		p.records = append(p.records, b)
		p.next += (len(b) + 41) / 32
	}
	n := len(p.deeds)
	if p.wipe(p.next, p.first+h); len(p.deeds) > n {
		p.sync()
	}
	return nil
}

func (p *plain) put(b []byte) {
	for _, s := range plainRecord(p.serial, uint64(len(p.records)), b) {
		p.write(p.next, s)
		p.next++
	}
	p.records = append(p.records, slices.Clone(b))
}

func (p *plain) append(b []byte) error {
	p.deeds = nil
	if len(b) < 1 || len(b) > 3000 {
		return api.ErrRange
	}
	if (len(b)+41)/32 > p.room() {
		return api.ErrQuota
	}
	p.put(b)
	p.sync()
	return nil
}

func (p *plain) compact(list [][]byte) error {
	p.deeds = nil
	need := 1
	for _, b := range list {
		if len(b) < 1 || len(b) > 3000 {
			return api.ErrRange
		}
		need += (len(b) + 41) / 32
	}
	if need > p.half() || p.nextSerial() > 1<<40 {
		return api.ErrQuota
	}
	p.first = p.half() - p.first
	p.serial = p.nextSerial()
	p.begin(p.first, p.serial)
	p.next, p.records = p.first+1, nil
	for _, b := range list {
		p.put(b)
	}
	p.sync()
	p.whole(p.first, p.serial)
	return nil
}

// copy is one that goes on apart, and has done nothing yet.
func (p *plain) copy() *plain {
	q := *p
	q.seen, q.records, q.deeds = slices.Clone(p.seen), slices.Clone(p.records), nil
	return &q
}

// do fails where a call that can be done answers an error.
func do(t *testing.T, err error) {
	t.Helper()
	if err != nil {
		t.Fatal(err)
	}
}

// refused fails where a call doesn't answer just this error.
func refused(t *testing.T, what string, err, want error) {
	t.Helper()
	if !errors.Is(err, want) {
		t.Errorf("%s: %v, not %v", what, err, want)
	}
}

func sameError(a, b error) bool {
	return a == nil && b == nil || a != nil && b != nil && errors.Is(a, b)
}

func made(t *testing.T, n int) *disk.Disk {
	t.Helper()
	d, err := disk.New(n)
	do(t, err)
	return d
}

// diskOf is a disk on which just these sectors are safe.
func diskOf(t *testing.T, seen []sector) *disk.Disk {
	t.Helper()
	d := made(t, len(seen))
	for i, s := range seen {
		if s != (sector{}) {
			do(t, d.Write(i, s[:]))
		}
	}
	do(t, d.Sync())
	return d
}

// safe is a disk's safe sectors.
func safe(t *testing.T, d *disk.Disk) []sector {
	t.Helper()
	var list []sector
	for i := range d.Size() {
		b, err := d.Safe(i)
		do(t, err)
		list = append(list, sector(b))
	}
	return list
}

// opened is the log of a disk that can be opened.
func opened(t *testing.T, d *disk.Disk) *Log {
	t.Helper()
	l, err := Open(d)
	if err != nil || l == nil {
		t.Fatalf("Open: %v", err)
	}
	return l
}

func texts(list ...string) [][]byte {
	var all [][]byte
	for _, s := range list {
		all = append(all, []byte(s))
	}
	return all
}

func sameRecords(a, b [][]byte) bool {
	return slices.EqualFunc(a, b, func(x, y []byte) bool { return string(x) == string(y) })
}

func has(t *testing.T, l *Log, list ...string) {
	t.Helper()
	if got := l.Records(); !sameRecords(got, texts(list...)) {
		t.Fatalf("the records are %q, not %q", got, list)
	}
}

// alike fails where a log tells of itself otherwise than the plain one.
func alike(t *testing.T, l *Log, p *plain, told string) {
	t.Helper()
	if got := l.Records(); !sameRecords(got, p.records) {
		t.Fatalf("%s: the records are %q, not %q", told, got, p.records)
	}
	if l.Room() != p.room() || l.Serial() != int(p.serial) || l.Dead() {
		t.Fatalf("%s: Room %d, Serial %d, Dead %v, not %d, %d, false", told, l.Room(), l.Serial(), l.Dead(), p.room(), p.serial)
	}
}

// plainOn is the plain log of a disk on which nothing is pending.
func plainOn(t *testing.T, d *disk.Disk) *plain {
	t.Helper()
	p := &plain{seen: safe(t, d)}
	do(t, p.open())
	return p
}

// choices is what may be kept of so many writes: all choices, if they are few.
func choices(n int) [][]bool {
	var list [][]bool
	if n <= 6 {
		for k := range 1 << n {
			keep := make([]bool, n)
			for i := range keep {
				keep[i] = k>>i&1 == 1
			}
			list = append(list, keep)
		}
		return list
	}
	for k := range n + 1 {
		one, allBut, upTo := make([]bool, n), slices.Repeat([]bool{true}, n), make([]bool, n)
		if k < n {
			one[k], allBut[k] = true, false
		}
		for i := range k {
			upTo[i] = true
		}
		list = append(list, one, allBut, upTo)
	}
	return list
}

// replay does deeds on a disk.
func replay(t *testing.T, d *disk.Disk, deeds []deed) {
	t.Helper()
	for _, x := range deeds {
		if x.at < 0 {
			do(t, d.Sync())
			continue
		}
		do(t, d.Write(x.at, x.what[:]))
	}
}

// failing does a call to copies of a disk, with power for each number of deeds: just the first so many of those told are done, in
// their order; whatever is kept then, the log opened anew has one of the lists of records.
func failing(t *testing.T, told string, d *disk.Disk, deeds []deed, call func(e *disk.Disk, armed func()) error, lists ...[][]byte) {
	t.Helper()
	for n := range len(deeds) + 1 {
		e, p := d.Copy(), d.Copy()
		err := call(e, func() { do(t, e.Arm(n)) })
		if n == len(deeds) && err != nil || n < len(deeds) && !errors.Is(err, api.ErrDown) {
			t.Fatalf("%s, with power for %d of %d deeds: %v", told, n, len(deeds), err)
		}
		replay(t, p, deeds[:n])
		if e.Pending() != p.Pending() || e.Deeds() != p.Deeds() || e.Off() != (n < len(deeds)) {
			t.Fatalf("%s, with power for %d of %d deeds: Pending %d, Deeds %d, not %d, %d; Off %v", told, n, len(deeds),
				e.Pending(), e.Deeds(), p.Pending(), p.Deeds(), e.Off())
		}
		for _, keep := range choices(p.Pending()) {
			a, b := e.Copy(), p.Copy()
			a.Crash(keep)
			b.Crash(keep)
			if !slices.Equal(safe(t, a), safe(t, b)) {
				t.Fatalf("%s, with power for %d of %d deeds, and %v kept: other sectors are safe", told, n, len(deeds), keep)
			}
			alive(t, told, a, lists)
		}
	}
}

// alive fails where a disk's log doesn't have one of the lists, or loses what it gets.
func alive(t *testing.T, told string, d *disk.Disk, lists [][][]byte) {
	t.Helper()
	l := opened(t, d)
	list := l.Records()
	if !slices.ContainsFunc(lists, func(one [][]byte) bool { return sameRecords(one, list) }) {
		t.Fatalf("%s: behind the crash the records are %q, none of %q", told, list, lists)
	}
	more := []byte("more")
	if l.Room() == 0 {
		return
	}
	do(t, l.Append(more))
	d.Crash(nil)
	if got := opened(t, d).Records(); !sameRecords(got, append(list, more)) {
		t.Fatalf("%s: the log had %q and got more; opened anew it has %q", told, list, got)
	}
}
