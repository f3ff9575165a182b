package halves

import (
	"bytes"
	"errors"
	"math"
	"math/rand/v2"
	"slices"
	"strings"
	"testing"

	"cartage/api"
	"cartage/disk"
)

func TestExample(t *testing.T) {
	d := made(t, 16)
	l := opened(t, d)
	do(t, l.Append([]byte("a")))
	do(t, l.Append([]byte("b")))
	has(t, opened(t, d), "a", "b")
}

func TestNeedAndHalf(t *testing.T) {
	if MaxRecord != 3000 {
		t.Errorf("MaxRecord is %d", MaxRecord)
	}
	for n, want := range map[int]int{
		math.MinInt: 0, -1: 0, 0: 0, 1: 1, 21: 1, 22: 1, 23: 2, 54: 2, 55: 3, 86: 3, 87: 4,
		2998: 94, 2999: 95, 3000: 95, 3001: 0, 1<<16 + 1: 0, 1 << 32: 0, math.MaxInt: 0,
	} {
		if got := Need(n); got != want {
			t.Errorf("Need of %d: %d, not %d", n, got, want)
		}
	}
	for n := 1; n <= 3000; n++ {
		if got := Need(n); 32*got < 10+n || 32*(got-1) >= 10+n {
			t.Errorf("Need of %d: %d", n, got)
		}
	}
	for n, want := range map[int]int{
		math.MinInt: 0, -3: 0, -2: 0, -1: 0, 0: 0, 1: 0, 2: 1, 3: 1, 4: 2, 5: 2, 6: 3, 7: 3, 4095: 2047, 4096: 2048, math.MaxInt: math.MaxInt / 2,
	} {
		if got := Half(n); got != want {
			t.Errorf("Half of %d: %d, not %d", n, got, want)
		}
	}
}

// holds fails where other sectors than these are safe; what isn't told are noughts.
func holds(t *testing.T, d *disk.Disk, list ...string) {
	t.Helper()
	for i, s := range safe(t, d) {
		want := ""
		if i < len(list) {
			want = list[i]
		}
		if string(s[:]) != want+strings.Repeat("\x00", 32-len(want)) {
			t.Errorf("sector %d is %q, not %q", i, s, want)
		}
	}
}

// The sums were worked out apart from this project.
func TestSectorsAsTheyAreTold(t *testing.T) {
	const (
		head      = "\x00\x00\x00\x00\x00\x00\x00\x01\x02\xfb\x1a\x6e\xf0\xfd\xb1\x64\x15"
		first     = "\x00\x01\xce\x3f\x67\x84\x3f\x4e\x9e\x0ea"
		second    = "\x00\x17\x09\x9e\xf8\xd4\x7d\xaf\xa9\x38bbbbbbbbbbbbbbbbbbbbbb"
		nextBegun = "\x00\x00\x00\x00\x00\x00\x00\x02\x01\x2b\x12\x81\xcb\xfd\x64\x1f\x05"
		nextHead  = "\x00\x00\x00\x00\x00\x00\x00\x02\x02\x57\xa3\x72\xdd\x7b\xc8\x02\x2a"
		nextFirst = "\x00\x01\x5c\xf4\xf0\x9b\xbf\xe6\xf1\x11c"
	)
	d := made(t, 9)
	l := opened(t, d)
	holds(t, d, head)
	do(t, l.Append([]byte("a")))
	holds(t, d, head, first)
	do(t, l.Append(bytes.Repeat([]byte("b"), 23)))
	holds(t, d, head, first, second, "b")
	e := d.Copy()
	do(t, l.Compact(texts("c")))
	holds(t, d, head, first, second, "b", nextHead, nextFirst)
	l = opened(t, e)
	do(t, e.Arm(2))
	refused(t, "Compact", l.Compact(texts("c")), api.ErrDown)
	holds(t, e, head, first, second, "b", nextBegun)
}

func TestOpenOfNoughts(t *testing.T) {
	for _, n := range []int{4, 5, 6, 7, 16, 4095, 4096} {
		d := made(t, n)
		l := opened(t, d)
		if len(l.Records()) != 0 || l.Serial() != 1 || l.Room() != n/2-1 || l.Dead() {
			t.Errorf("of %d sectors: records %q, Serial %d, Room %d, Dead %v", n, l.Records(), l.Serial(), l.Room(), l.Dead())
		}
		want := make([]sector, n)
		want[0] = plainHead(1, 2)
		if !slices.Equal(safe(t, d), want) || d.Deeds() != 5 || d.Pending() != 0 {
			t.Errorf("of %d sectors: %d deeds, %d pending, or other sectors", n, d.Deeds(), d.Pending())
		}
		opened(t, d)
		if d.Deeds() != 5 {
			t.Errorf("of %d sectors: opened anew it does deeds, with nothing to do", n)
		}
	}
}

// What is pending is seen, and what gets a record makes all of it safe.
func TestOpenOfWhatIsPending(t *testing.T) {
	d := made(t, 8)
	replay(t, d, []deed{{0, plainHead(3, 2)}, {1, plainRecord(3, 0, []byte("a"))[0]}})
	l := opened(t, d)
	has(t, l, "a")
	if d.Deeds() != 2 || d.Pending() != 2 {
		t.Errorf("%d deeds, %d pending: there was nothing to do", d.Deeds(), d.Pending())
	}
	do(t, l.Append([]byte("b")))
	d.Crash(nil)
	has(t, opened(t, d), "a", "b")

	do(t, d.Write(4, []byte("junk")))
	do(t, d.Write(3, []byte("junk")))
	has(t, opened(t, d), "a", "b")
	if d.Pending() != 0 {
		t.Error("what was wiped isn't safe")
	}
}

func TestOpenRefuses(t *testing.T) {
	refuses := func(d *disk.Disk, want error) {
		t.Helper()
		if l, err := Open(d); l != nil || !errors.Is(err, want) {
			t.Errorf("Open: %v, %v, not %v", l, err, want)
		}
	}
	refuses(nil, api.ErrNone)
	refuses(&disk.Disk{}, api.ErrRange)
	for _, n := range []int{2, 3} {
		d := made(t, n)
		refuses(d, api.ErrRange)
		do(t, d.Arm(0))
		refused(t, "Sync", d.Sync(), api.ErrDown)
		refuses(d, api.ErrRange) // off, too, but that comes behind
		if d.Crash([]bool{true}) != 0 {
			t.Error("a disk that is too small was written")
		}
	}
	d := diskOf(t, []sector{plainHead(1<<40, 1), {}, {}, {}})
	deeds := d.Deeds()
	refuses(d, api.ErrQuota)
	do(t, d.Arm(0))
	refuses(d, api.ErrQuota)
	if d.Deeds() != deeds || d.Off() {
		t.Error("a log that can't be begun does deeds")
	}
	refused(t, "Sync", d.Sync(), api.ErrDown)
	refuses(d, api.ErrDown)
	d.Crash(nil)
	refuses(d, api.ErrQuota)
}

func TestAppendRefuses(t *testing.T) {
	d := made(t, 200)
	l := opened(t, d)
	do(t, l.Append([]byte("a")))
	p, deeds := plainOn(t, d), d.Deeds()
	do(t, d.Arm(0))
	for _, n := range []int{0, 3001, 3002, 1 << 16, 1<<16 + 1, 1 << 20} {
		refused(t, "Append", l.Append(make([]byte, n)), api.ErrRange)
	}
	refused(t, "Append of nil", l.Append(nil), api.ErrRange)
	refused(t, "Append of much", l.Append(make([]byte, 3000)), api.ErrDown) // it has room, just no power
	if d.Deeds() != deeds || !d.Off() || !l.Dead() {
		t.Fatal("Append of 3000 bytes into 98 sectors wasn't begun")
	}
	d.Crash(nil)
	l = opened(t, d)
	alike(t, l, p, "behind what was refused")
}

func TestAppendUpToTheEnd(t *testing.T) {
	for room := 1; room <= 5; room++ {
		for n := 1; n <= 32*room+32; n++ {
			d := made(t, 2*room+2)
			l := opened(t, d)
			b := bytes.Repeat([]byte{0xff}, n)
			err := l.Append(b)
			if (n+41)/32 > room {
				refused(t, "Append of too much", err, api.ErrQuota)
				has(t, l)
				if l.Room() != room || l.Dead() || d.Deeds() != 5 || d.Pending() != 0 {
					t.Fatalf("what was refused changed the log: Room %d, Dead %v, Deeds %d", l.Room(), l.Dead(), d.Deeds())
				}
				continue
			}
			do(t, err)
			if l.Room() != room-(n+41)/32 {
				t.Fatalf("Room %d", l.Room())
			}
			has(t, l, string(b))
			d.Crash(nil)
			has(t, opened(t, d), string(b))
			if s := safe(t, d)[room+1:]; slices.ContainsFunc(s, func(s sector) bool { return s != sector{} }) {
				t.Fatal("the other half was written")
			}
		}
	}
}

func TestAppendOfEachLength(t *testing.T) {
	for n := 1; n <= 3000; n += 1 + n/40 {
		b := make([]byte, n) // noughts, and a full last byte: the record's end isn't told by what is in it
		b[n-1] = byte(n)
		d := made(t, 400)
		l := opened(t, d)
		do(t, l.Append(b))
		do(t, l.Append([]byte("next")))
		has(t, l, string(b), "next")
		has(t, opened(t, d), string(b), "next")
		do(t, l.Compact([][]byte{[]byte("first"), b}))
		has(t, l, "first", string(b))
		has(t, opened(t, d), "first", string(b))
	}
	for _, b := range [][]byte{{0}, make([]byte, 22), make([]byte, 23), make([]byte, 3000)} {
		d := made(t, 400)
		l := opened(t, d)
		do(t, l.Append(b))
		do(t, l.Append(b))
		has(t, opened(t, d), string(b), string(b))
	}
}

func TestCompactRefuses(t *testing.T) {
	d := made(t, 12) // room for 5 sectors
	l := opened(t, d)
	do(t, l.Append([]byte("a")))
	do(t, d.Arm(0))
	long := make([]byte, 3001)
	for _, list := range [][][]byte{{nil}, {{}}, {long}, {{1}, {}}, {{1}, long, {2}}, {make([]byte, 200), nil}, {long[:3000], {}}} {
		refused(t, "Compact of other lengths", l.Compact(list), api.ErrRange)
	}
	for _, list := range [][][]byte{{make([]byte, 151)}, {long[:3000]}, texts("a", "b", "c", "d", "e", "f"), {make([]byte, 118), {1}, {2}}} {
		refused(t, "Compact of too much", l.Compact(list), api.ErrQuota)
	}
	has(t, l, "a")
	if l.Dead() || d.Off() || l.Serial() != 1 || l.Room() != 4 {
		t.Error("what was refused changed the log")
	}
	d.Crash(nil)
	for k, list := range [][][]byte{{make([]byte, 150)}, texts("a", "b", "c", "d", "e"), {make([]byte, 118), {1}}, nil, {}} {
		do(t, l.Compact(list))
		if !sameRecords(l.Records(), list) || l.Serial() != k+2 || !sameRecords(opened(t, d).Records(), list) {
			t.Errorf("Compact of %q: records %q, Serial %d", list, l.Records(), l.Serial())
		}
	}
}

func TestSerialsEnd(t *testing.T) {
	d := diskOf(t, []sector{plainHead(1<<40-1, 2), {}, {}, {}})
	l := opened(t, d)
	do(t, l.Compact(texts("a")))
	if l.Serial() != 1<<40 {
		t.Errorf("Serial %d", l.Serial())
	}
	do(t, d.Arm(0))
	refused(t, "Compact", l.Compact(texts("b")), api.ErrQuota)
	refused(t, "Compact", l.Compact(nil), api.ErrQuota)
	refused(t, "Compact of a wrong one", l.Compact(texts("")), api.ErrRange)
	has(t, l, "a")
	if l.Dead() || d.Off() || l.Serial() != 1<<40 {
		t.Error("what was refused changed the log")
	}
	d.Crash(nil)
	l = opened(t, d)
	has(t, l, "a")
	refused(t, "Append", l.Append([]byte("b")), api.ErrQuota)

	d = diskOf(t, []sector{plainHead(7, 2), {}, {}, plainHead(1<<40, 1), {}, {}}) // the one that was begun alone has the greatest serial
	l = opened(t, d)
	do(t, l.Append([]byte("c")))
	refused(t, "Compact", l.Compact(texts("b")), api.ErrQuota)
	do(t, l.Append([]byte("d")))
	has(t, opened(t, d), "c", "d")
	if l.Serial() != 7 {
		t.Errorf("Serial %d", l.Serial())
	}
}

// The serial goes by the heads as they stand on the disk.
func TestSerialOfEachPairOfHeads(t *testing.T) {
	for one := range uint64(4) {
		for two := range uint64(4) {
			for states := range 4 {
				seen := make([]sector, 8)
				if one > 0 {
					seen[0] = plainHead(one, byte(states&1+1))
				}
				if two > 0 {
					seen[4] = plainHead(two, byte(states>>1+1))
				}
				p := &plain{seen: slices.Clone(seen)}
				do(t, p.open())
				d := diskOf(t, seen)
				deeds := d.Deeds()
				l := opened(t, d)
				alike(t, l, p, "opened")
				if d.Deeds() != deeds+len(p.deeds) || !slices.Equal(safe(t, d), p.seen) {
					t.Errorf("serials %d, %d, states %b: %d deeds, not %d, or other sectors", one, two, states, d.Deeds()-deeds, len(p.deeds))
				}
				for _, list := range [][][]byte{texts("a", "b"), texts("c")} {
					do(t, p.compact(list))
					do(t, l.Compact(list))
					alike(t, l, p, "laid anew")
					if !slices.Equal(safe(t, d), p.seen) {
						t.Errorf("serials %d, %d, states %b: laid anew there are other sectors", one, two, states)
					}
				}
			}
		}
	}
}

func TestGreaterOfTwoWholeHeads(t *testing.T) {
	for _, c := range []struct {
		one, two uint64
		want     string
	}{{1, 2, "two"}, {2, 1, "one"}, {5, 5, "one"}, {1 << 40, 1 << 40, "one"}, {255, 256, "two"}, {1 << 40, 1<<40 - 1, "one"}, {0, 9, "two"}, {1<<40 + 1, 1, "two"}} {
		seen := make([]sector, 8)
		seen[0], seen[4] = plainHead(c.one, 2), plainHead(c.two, 2)
		seen[1], seen[5] = plainRecord(c.one, 0, []byte("one"))[0], plainRecord(c.two, 0, []byte("two"))[0]
		has(t, opened(t, diskOf(t, seen)), c.want)
	}
}

// A head of which any byte is another one isn't right; neither is one of another serial or state.
func TestWrongHeads(t *testing.T) {
	wrong := func(s sector, told string, k int) {
		t.Helper()
		seen := make([]sector, 8)
		seen[0], seen[4] = plainHead(3, 2), s
		seen[1], seen[5] = plainRecord(3, 0, []byte("one"))[0], plainRecord(9, 0, []byte("two"))[0]
		l := opened(t, diskOf(t, seen))
		if got := l.Records(); !sameRecords(got, texts("one")) {
			t.Fatalf("%s %d: the records are %q", told, k, got)
		}
		do(t, l.Compact(nil))
		if l.Serial() != 4 {
			t.Fatalf("%s %d: the next serial is %d", told, k, l.Serial())
		}
	}
	for k := range 32 {
		for bit := range 8 {
			s := plainHead(9, 2)
			s[k] ^= 1 << bit
			wrong(s, "byte", k)
		}
	}
	for state := range 256 {
		if state != 1 && state != 2 {
			wrong(plainHead(9, byte(state)), "state", state)
		}
	}
	for k, serial := range []uint64{0, 1<<40 + 1, 1 << 41, 1<<62 - 1, 1 << 62, 1 << 63, math.MaxUint64} {
		wrong(plainHead(serial, 2), "serial", k)
	}
}

// With each byte of the second record another one there is just the first; what is behind is wiped.
func TestWrongRecords(t *testing.T) {
	second := []byte("this one has more than a single sector, and ends within one")
	base := make([]sector, 16)
	base[0] = plainHead(6, 2)
	copy(base[1:], plainRecord(6, 0, []byte("first")))
	copy(base[2:], plainRecord(6, 1, second))
	copy(base[5:], plainRecord(6, 2, []byte("third")))
	has(t, opened(t, diskOf(t, base)), "first", string(second), "third")
	for k := range 96 {
		seen := slices.Clone(base)
		seen[2+k/32][k%32] ^= 1 << (k % 8)
		d := diskOf(t, seen)
		l := opened(t, d)
		has(t, l, "first")
		if l.Room() != 6 || !slices.Equal(safe(t, d)[2:], make([]sector, 14)) {
			t.Fatalf("byte %d: Room %d, or something is left behind the records", k, l.Room())
		}
	}
	for told, what := range map[string][]sector{
		"another serial":    plainRecord(5, 1, second),
		"too few ahead":     plainRecord(6, 0, second),
		"too many ahead":    plainRecord(6, 2, second),
		"no length":         plainRecord(6, 1, nil),
		"beyond the half":   plainRecord(6, 1, make([]byte, 32*6-9)),
		"too long a record": plainRecord(6, 1, make([]byte, 3001)),
		"a head":            {plainHead(6, 2)},
	} {
		seen := slices.Clone(base)
		clear(seen[2:])
		copy(seen[2:], what)
		l := opened(t, diskOf(t, seen))
		if got := l.Records(); !sameRecords(got, texts("first")) || l.Room() != 6 {
			t.Errorf("%s: the records are %q, Room %d", told, got, l.Room())
		}
	}
	seen := slices.Clone(base)
	copy(seen[2:], plainRecord(6, 1, make([]byte, 32*6-10)))
	if l := opened(t, diskOf(t, seen)); l.Room() != 0 || len(l.Records()) != 2 {
		t.Errorf("a record up to the half's end: Room %d, %d records", l.Room(), len(l.Records()))
	}
	big := make([]sector, 400)
	big[0] = plainHead(6, 2)
	copy(big[1:], plainRecord(6, 0, make([]byte, 3001)))
	has(t, opened(t, diskOf(t, big)))
	clear(big[1:])
	copy(big[1:], plainRecord(6, 0, make([]byte, 3000)))
	has(t, opened(t, diskOf(t, big)), string(make([]byte, 3000)))
}

// junk is sectors of which each says something else.
func junk(n int) []sector {
	list := make([]sector, n)
	for i := range list {
		list[i] = sector{byte(i + 1), 31: byte(i + 1)}
	}
	return list
}

func TestLastSectorOfAnOddDisk(t *testing.T) {
	for _, n := range []int{5, 7, 9} {
		seen := junk(n)
		d := diskOf(t, seen)
		l := opened(t, d)
		for range 3 {
			do(t, l.Append([]byte("a")))
			do(t, l.Compact(nil))
			if l.Room() != n/2-1 {
				t.Errorf("Room %d of %d sectors", l.Room(), n)
			}
		}
		if safe(t, d)[n-1] != seen[n-1] {
			t.Error("the last sector was written")
		}
	}
}

// Wherever the power fails, just the deeds ahead are done, in their order; of what is pending any choice may be kept.
func TestOpenWhenThePowerFails(t *testing.T) {
	open := func(e *disk.Disk, armed func()) error {
		armed()
		l, err := Open(e)
		if (l == nil) != (err != nil) {
			t.Fatalf("Open: %v, %v", l, err)
		}
		return err
	}
	record := func(serial, ahead uint64, s string) sector { return plainRecord(serial, ahead, []byte(s))[0] }
	for told, seen := range map[string][]sector{
		"noughts":        make([]sector, 8),
		"junk":           junk(9),
		"begun":          {plainHead(3, 1), record(3, 0, "a"), {1}, {}, {}, {}},
		"both begun":     {plainHead(3, 1), {}, {2}, plainHead(8, 1), {3}, {}},
		"second is in":   {plainHead(3, 2), record(3, 0, "a"), {1}, {2}, plainHead(4, 2), record(4, 0, "b"), {}, {3}},
		"junk behind":    {plainHead(3, 2), {}, {1}, {}, {31: 2}, {3}, {7}, {}, {}, {}, {}, {}},
		"nothing behind": {plainHead(3, 2), record(3, 0, "a"), {}, {}, plainHead(2, 2), {4}, {}, {}},
	} {
		d := diskOf(t, seen)
		p := &plain{seen: slices.Clone(seen)}
		do(t, p.open())
		failing(t, told, d, p.deeds, open, p.records)
	}
}

// changing makes a call to a log of a disk's copy: when the power fails, the log is dead, and tells what it had.
func changing(t *testing.T, change func(l *Log) error) func(e *disk.Disk, armed func()) error {
	return func(e *disk.Disk, armed func()) error {
		l := opened(t, e)
		list, room, serial := l.Records(), l.Room(), l.Serial()
		armed()
		err := change(l)
		if err == nil {
			return nil
		}
		same := sameRecords(l.Records(), list) && l.Room() == room && l.Serial() == serial
		if !same || !l.Dead() {
			t.Fatalf("behind %v: records %q, Room %d, Serial %d, Dead %v", err, l.Records(), l.Room(), l.Serial(), l.Dead())
		}
		return err
	}
}

func TestAppendWhenThePowerFails(t *testing.T) {
	for _, ahead := range []int{0, 1, 3} {
		for _, n := range []int{1, 22, 23, 150, 300} {
			d := made(t, 41)
			l := opened(t, d)
			for range ahead {
				do(t, l.Append(bytes.Repeat([]byte("x"), 30)))
			}
			p, b := plainOn(t, d), bytes.Repeat([]byte("new"), n/3+1)[:n]
			old := l.Records()
			do(t, p.append(b))
			failing(t, "Append", d, p.deeds, changing(t, func(l *Log) error { return l.Append(b) }), old, p.records)
		}
	}
}

func TestCompactWhenThePowerFails(t *testing.T) {
	for _, list := range [][][]byte{nil, texts("a"), texts("a", "b", strings.Repeat("c", 40)), {make([]byte, 100)}} {
		for _, other := range [][]sector{make([]sector, 6), junk(6), {plainHead(1, 2), plainRecord(1, 0, []byte("older"))[0], {}, {1}, {}, {2}}, {plainHead(7, 1)}} {
			for _, in := range []int{0, 6} {
				seen := make([]sector, 12)
				copy(seen[6-in:], other)
				seen[in] = plainHead(5, 2)
				seen[in+1] = plainRecord(5, 0, []byte("old"))[0]
				d := diskOf(t, seen)
				p := plainOn(t, d)
				old := p.records
				do(t, p.compact(list))
				failing(t, "Compact", d, p.deeds, changing(t, func(l *Log) error { return l.Compact(list) }), old, p.records)
			}
		}
	}
}

// The power fails within a call, and then again and again while the log is opened anew.
func TestOpenedAnewWhenThePowerFailsAgain(t *testing.T) {
	d := made(t, 12)
	l := opened(t, d)
	do(t, l.Append([]byte("old")))
	do(t, l.Compact(texts("old", "older")))
	old, list := l.Records(), texts("new", "newer", "newest")
	record := bytes.Repeat([]byte("r"), 80)
	for seed := range uint64(300) {
		r := rand.New(rand.NewPCG(seed, 5))
		e := d.Copy()
		l, lists := opened(t, e), [][][]byte{old, list}
		do(t, e.Arm(r.IntN(16)))
		if seed%2 == 0 {
			l.Compact(list)
		} else {
			lists[1] = append(slices.Clone(old), record)
			l.Append(record)
		}
		for range 4 {
			crash(r, e)
			do(t, e.Arm(r.IntN(6)))
			if l, err := Open(e); err == nil && !slices.ContainsFunc(lists, func(one [][]byte) bool { return sameRecords(one, l.Records()) }) {
				t.Fatalf("seed %d: the records are %q", seed, l.Records())
			}
		}
		crash(r, e)
		alive(t, "again and again", e, lists)
	}
}

func crash(r *rand.Rand, d *disk.Disk) {
	keep := make([]bool, r.IntN(d.Pending()+2))
	for k := range keep {
		keep[k] = r.IntN(2) == 0
	}
	d.Crash(keep)
}

func TestDeadLog(t *testing.T) {
	for n := range 4 {
		d := made(t, 16)
		l := opened(t, d)
		do(t, l.Append([]byte("a")))
		do(t, d.Arm(n%2))
		if n < 2 {
			refused(t, "Append", l.Append([]byte("b")), api.ErrDown)
		} else {
			refused(t, "Compact", l.Compact(texts("b")), api.ErrDown)
		}
		for range 2 { // with the power off, and then with it on
			for _, b := range [][]byte{[]byte("c"), nil, make([]byte, 3001), make([]byte, 3000)} {
				refused(t, "Append", l.Append(b), api.ErrDown)
				refused(t, "Compact", l.Compact([][]byte{b}), api.ErrDown)
			}
			refused(t, "Compact", l.Compact(nil), api.ErrDown)
			has(t, l, "a")
			if !l.Dead() || l.Room() != 6 || l.Serial() != 1 {
				t.Errorf("Dead %v, Room %d, Serial %d", l.Dead(), l.Room(), l.Serial())
			}
			d.Crash(nil)
		}
		has(t, opened(t, d), "a")
	}
}

// The power fails beside the log: its next call that needs the disk is told so.
func TestPowerThatFailsBetweenCalls(t *testing.T) {
	for n := range 2 {
		d := made(t, 16)
		l := opened(t, d)
		do(t, l.Append([]byte("a")))
		do(t, d.Arm(0))
		refused(t, "Sync", d.Sync(), api.ErrDown)
		has(t, l, "a")
		if n == 0 {
			refused(t, "Append", l.Append([]byte("b")), api.ErrDown)
		} else {
			refused(t, "Compact", l.Compact(nil), api.ErrDown)
		}
		d.Crash(nil)
		if !l.Dead() {
			t.Error("the log isn't dead")
		}
		refused(t, "Append", l.Append([]byte("c")), api.ErrDown)
	}
	d := made(t, 16)
	l := opened(t, d)
	do(t, l.Append([]byte("a")))
	d.Crash(nil) // it came again at once, and nothing was pending
	do(t, l.Append([]byte("b")))
	has(t, l, "a", "b")
	has(t, opened(t, d), "a", "b")
}

func TestArgumentsAreNotKept(t *testing.T) {
	d := made(t, 100)
	l := opened(t, d)
	room := bytes.Repeat([]byte("x"), 64)
	do(t, l.Append(room[:40]))
	list := [][]byte{room[:40], room[40:], []byte("third")}
	if !bytes.Equal(room, bytes.Repeat([]byte("x"), 64)) {
		t.Error("Append changed what it was given")
	}
	clear(room)
	has(t, l, strings.Repeat("x", 40))
	room[0], room[40] = 1, 2
	want := []string{string(list[0]), string(list[1])}
	do(t, l.Compact(list[:2]))
	if string(list[0]) != want[0] || string(list[1]) != want[1] || string(list[2]) != "third" {
		t.Error("Compact changed what it was given")
	}
	list[0] = []byte("other")
	clear(room)
	has(t, l, want...)
	has(t, opened(t, d), want...)
}

func TestAnswersAreTheCallers(t *testing.T) {
	d := made(t, 100)
	l := opened(t, d)
	for _, s := range []string{"a", "bb", "a"} {
		do(t, l.Append([]byte(s)))
	}
	for range 2 {
		one, two := l.Records(), l.Records()
		for k := range one {
			one[k][0] = 'z'
			_ = append(one[k], "zzzz"...)
		}
		one[1] = nil
		_ = append(one[:1], nil, nil)
		if !sameRecords(two, texts("a", "bb", "a")) {
			t.Errorf("another answer is %q now", two)
		}
		has(t, l, "a", "bb", "a")
		l = opened(t, d)
	}
	do(t, l.Compact(l.Records()))
	has(t, l, "a", "bb", "a")
}

// A log that wasn't opened has no sectors; none of its calls panics.
func TestLogThatWasNotOpened(t *testing.T) {
	var l Log
	refused(t, "Append", l.Append([]byte("a")), api.ErrQuota)
	refused(t, "Append of nothing", l.Append(nil), api.ErrRange)
	refused(t, "Compact", l.Compact(nil), api.ErrQuota)
	refused(t, "Compact of nothing", l.Compact([][]byte{nil}), api.ErrRange)
	if len(l.Records()) != 0 || l.Room() != 0 || l.Serial() != 0 || l.Dead() {
		t.Errorf("records %q, Room %d, Serial %d, Dead %v", l.Records(), l.Room(), l.Serial(), l.Dead())
	}
}

// strange is sectors of a disk on which anything may stand, right pieces among them.
func strange(r *rand.Rand) []sector {
	seen := make([]sector, 4+r.IntN(14))
	half := len(seen) / 2
	serials := []uint64{1, 2, 3, 1<<40 - 1, 1 << 40, 1<<40 + 1}
	for _, first := range []int{0, half} {
		serial := serials[r.IntN(len(serials))]
		switch r.IntN(8) {
		case 0:
		case 1:
			seen[first] = sector{byte(r.Uint32())}
		default:
			seen[first] = plainHead(serial, byte(1+r.IntN(5)/2))
		}
		for at, ahead := first+1, uint64(0); at < first+half; ahead++ {
			what := plainRecord(serial, ahead, make([]byte, r.IntN(100)))
			switch r.IntN(10) {
			case 0, 1:
				what = make([]sector, 1+r.IntN(3))
			case 2, 3:
				what[len(what)-1][r.IntN(32)] ^= 1 << r.IntN(8)
			case 4:
				ahead++
			}
			at += copy(seen[at:first+half], what)
		}
	}
	return seen
}

func TestWhateverStandsOnADisk(t *testing.T) {
	for seed := range uint64(4000) {
		r := rand.New(rand.NewPCG(seed, 6))
		seen := strange(r)
		p, d := &plain{seen: slices.Clone(seen)}, diskOf(t, seen)
		want, deeds := p.open(), d.Deeds()
		l, err := Open(d)
		if !sameError(err, want) || (l == nil) != (err != nil) {
			t.Fatalf("seed %d: Open: %v, not %v", seed, err, want)
		}
		if err != nil {
			if !slices.Equal(safe(t, d), seen) || d.Deeds() != deeds {
				t.Fatalf("seed %d: a log that can't be opened changes the disk", seed)
			}
			continue
		}
		alike(t, l, p, "opened")
		if d.Deeds()-deeds != len(p.deeds) || !slices.Equal(safe(t, d), p.seen) || d.Pending() != 0 {
			t.Fatalf("seed %d: %d deeds, not %d, or other sectors", seed, d.Deeds()-deeds, len(p.deeds))
		}
		for range 4 {
			changed(t, r, l, p, d)
		}
		d.Crash(nil)
		alike(t, opened(t, d), p, "opened anew")
	}
}

// changed makes a call of any kind to both logs.
func changed(t *testing.T, r *rand.Rand, l *Log, p *plain, d *disk.Disk) {
	t.Helper()
	deeds := d.Deeds()
	var err, want error
	if r.IntN(3) > 0 {
		b := someRecord(r)
		err, want = l.Append(b), p.append(b)
	} else {
		list := someRecords(r)
		err, want = l.Compact(list), p.compact(list)
	}
	if !sameError(err, want) || d.Deeds()-deeds != len(p.deeds) || d.Pending() != 0 {
		t.Fatalf("%v, not %v; %d deeds, not %d", err, want, d.Deeds()-deeds, len(p.deeds))
	}
	alike(t, l, p, "behind a call")
	if !slices.Equal(safe(t, d), p.seen) {
		t.Fatal("behind a call there are other sectors")
	}
}

func someRecord(r *rand.Rand) []byte {
	n := 1 + r.IntN(70)
	switch r.IntN(20) {
	case 0:
		n = 0
	case 1:
		n = 3001 - r.IntN(2)
	}
	b := make([]byte, n)
	for k := range b {
		b[k] = byte(r.IntN(3))
	}
	return b
}

func someRecords(r *rand.Rand) [][]byte {
	list := make([][]byte, r.IntN(5))
	for k := range list {
		list[k] = someRecord(r)
	}
	return list
}

func TestLongOrders(t *testing.T) {
	for seed := range uint64(40) {
		r := rand.New(rand.NewPCG(seed, 7))
		d := made(t, []int{4, 9, 24, 60, 300}[r.IntN(5)])
		l, p := opened(t, d), plainOn(t, d)
		for range 150 {
			switch r.IntN(6) {
			case 0:
				l = opened(t, d)
				do(t, p.open())
			case 1:
				l = broken(t, r, l, p, d)
			default:
				changed(t, r, l, p, d)
			}
			alike(t, l, p, "on its way")
		}
	}
}

// broken lets the power fail within a call: the log that is opened anew has what it had, or what it would have.
func broken(t *testing.T, r *rand.Rand, l *Log, p *plain, d *disk.Disk) *Log {
	t.Helper()
	do(t, d.Arm(r.IntN(12)))
	b, list, after := someRecord(r), someRecords(r), p.copy()
	var err, want error
	if r.IntN(2) == 0 {
		err, want = l.Append(b), after.append(b)
	} else {
		err, want = l.Compact(list), after.compact(list)
	}
	if errors.Is(err, api.ErrDown) != d.Off() || l.Dead() != d.Off() || !d.Off() && !sameError(err, want) {
		t.Fatalf("%v, not %v; Off %v, Dead %v", err, want, d.Off(), l.Dead())
	}
	crash(r, d)
	lists := [][][]byte{p.records, after.records}
	p.seen = safe(t, d)
	do(t, p.open())
	l = opened(t, d)
	if !slices.ContainsFunc(lists, func(one [][]byte) bool { return sameRecords(one, l.Records()) }) {
		t.Fatalf("opened anew the records are %q, none of %q", l.Records(), lists)
	}
	return l
}
