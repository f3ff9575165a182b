package octets

import (
	"bytes"
	"encoding/binary"
	"errors"
	"math"
	"slices"
	"strings"
	"testing"

	"cartage/api"
)

// stuff is n bytes of all values, the same ones each time.
func stuff(n int) []byte {
	b := make([]byte, n)
	x := uint32(n) + 1
	for i := range b {
		x = x*1664525 + 1013904223
		b[i] = byte(x >> 24)
	}
	return b
}

// greatest is each number's letter, how many bytes it has, and the greatest one.
var greatest = []struct {
	letter byte
	size   int
	most   int
}{{'b', 1, 255}, {'w', 4, 4294967295}, {'q', 8, 4611686018427387903}}

// figures is a number's bytes as the library tells them, the last size of them.
func figures(n uint64, size int) []byte {
	return binary.BigEndian.AppendUint64(nil, n)[8-size:]
}

func sameFields(a, b []Field) bool {
	return slices.EqualFunc(a, b, func(x, y Field) bool { return x.N == y.N && bytes.Equal(x.B, y.B) })
}

// some is a shape with each letter, its fields and its bytes.
func some() (string, []Field, []byte) {
	id := stuff(32)
	b := slices.Concat([]byte{7, 1, 2, 3, 4, 0, 3, 'a', 'b', 'c', 0, 0, 0, 1, 0, 0, 0, 2}, id, []byte{0, 0, 255})
	return "bwtqotb", []Field{Num(7), Num(0x01020304), Text("abc"), Num(1<<32 + 2), Bytes(id), Text(""), Num(255)}, b
}

func wantWriteFault(t *testing.T, want error, shape string, fields ...Field) {
	t.Helper()
	if b, err := Write(shape, fields...); !errors.Is(err, want) || b != nil {
		t.Errorf("Write of %q with %d fields: %d bytes, %v, not %v", shape, len(fields), len(b), err, want)
	}
}

func wantReadFault(t *testing.T, want error, shape string, b []byte) {
	t.Helper()
	if fields, err := Read(shape, b); !errors.Is(err, want) || fields != nil {
		t.Errorf("Read of %q from %d bytes: %d fields, %v, not %v", shape, len(b), len(fields), err, want)
	}
}

func wantRestFault(t *testing.T, want error, shape string, b []byte) {
	t.Helper()
	if fields, rest, err := Rest(shape, b); !errors.Is(err, want) || fields != nil || rest != nil {
		t.Errorf("Rest of %q from %d bytes: %d fields, %d bytes, %v, not %v", shape, len(b), len(fields), len(rest), err, want)
	}
}

func wantTakeFault[T comparable](t *testing.T, want error, b []byte, read func(i *In) T) {
	t.Helper()
	var none T
	if got, err := Take(b, read); !errors.Is(err, want) || got != none {
		t.Errorf("Take from %d bytes: %v, %v, not %v", len(b), got, err, want)
	}
}

func TestWriteExample(t *testing.T) {
	got, err := Write("bt", Num(1), Text("ab"))
	if err != nil || !bytes.Equal(got, []byte{1, 0, 2, 0x61, 0x62}) {
		t.Errorf("Write of bt, 1, ab: %x, %v", got, err)
	}
}

func TestWriteOfEachLetter(t *testing.T) {
	shape, fields, want := some()
	got, err := Write(shape, fields...)
	if err != nil || !bytes.Equal(got, want) {
		t.Errorf("Write: %x, %v, not %x", got, err, want)
	}
	if got, err := Write(""); err != nil || len(got) != 0 {
		t.Errorf("Write of nothing: %x, %v", got, err)
	}
}

func TestWriteOfNumbers(t *testing.T) {
	for _, g := range greatest {
		shape := string(g.letter)
		for _, n := range []int{0, 1, 127, 128, 255, g.most/2 + 1, g.most/3 + 1, g.most - 1, g.most} {
			got, err := Write(shape, Num(n))
			if err != nil || !bytes.Equal(got, figures(uint64(n), g.size)) {
				t.Errorf("Write of %s, %d: %x, %v", shape, n, got, err)
			}
		}
		for _, n := range []int{-1, -g.most, math.MinInt, g.most + 1, math.MaxInt} {
			wantWriteFault(t, api.ErrRange, shape, Num(n))
			wantWriteFault(t, api.ErrRange, "b"+shape+"t", Num(1), Num(n), Text("x"))
		}
	}
}

func TestWriteOfWrongLengths(t *testing.T) {
	for n := range 100 {
		if n != 32 {
			wantWriteFault(t, api.ErrRange, "o", Bytes(stuff(n)))
		}
	}
	wantWriteFault(t, api.ErrRange, "o", Num(32))
	for _, n := range []int{0, 1, 255, 256, 65534, 65535} {
		b := stuff(n)
		got, err := Write("t", Bytes(b))
		if want := append([]byte{byte(n >> 8), byte(n)}, b...); err != nil || !bytes.Equal(got, want) {
			t.Errorf("Write of a text of %d bytes: %d bytes, %v", n, len(got), err)
		}
	}
	for _, n := range []int{65536, 65537, 1 << 17, 1<<16 + 32} {
		wantWriteFault(t, api.ErrRange, "t", Bytes(stuff(n)))
	}
}

func TestOtherLettersAreOfNoKind(t *testing.T) {
	for c := range 256 {
		letter := string([]byte{byte(c)})
		if strings.Contains("bwqot", letter) {
			continue
		}
		for _, shape := range []string{letter, "b" + letter, letter + "b", "bb" + letter + "bb"} {
			wantWriteFault(t, api.ErrKind, shape, slices.Repeat([]Field{Num(1)}, len(shape))...)
			wantWriteFault(t, api.ErrKind, shape) // ahead of: too few fields
			wantWriteFault(t, api.ErrKind, shape, slices.Repeat([]Field{Num(-1)}, 9)...)
			for _, b := range [][]byte{nil, {1}, stuff(100)} { // ahead of: too short, too long
				wantReadFault(t, api.ErrKind, shape, b)
				wantRestFault(t, api.ErrKind, shape, b)
			}
		}
		wantTakeFault(t, api.ErrKind, stuff(8), func(i *In) int { return i.Num(byte(c)) })
	}
	wantReadFault(t, api.ErrKind, "qx", bytes.Repeat([]byte{255}, 8)) // ahead of: too great a number
	for _, letter := range []byte{'o', 't'} {
		wantTakeFault(t, api.ErrKind, stuff(32), func(i *In) int { return i.Num(letter) })
		wantTakeFault(t, api.ErrKind, nil, func(i *In) int { return i.Num(letter) })
	}
}

func TestWriteOfWrongCounts(t *testing.T) {
	shape, fields, _ := some()
	for n := range fields {
		wantWriteFault(t, api.ErrRange, shape, fields[:n]...)
	}
	wantWriteFault(t, api.ErrRange, shape, append(fields, Num(1))...)
	wantWriteFault(t, api.ErrRange, "", Num(1))
}

func TestWritePassesOverTheOtherPart(t *testing.T) {
	id := stuff(32)
	got, err := Write("bqot", Field{1, stuff(70000)}, Field{2, nil}, Field{-3, id}, Field{math.MaxInt, []byte("x")})
	want := slices.Concat([]byte{1, 0, 0, 0, 0, 0, 0, 0, 2}, id, []byte{0, 1, 'x'})
	if err != nil || !bytes.Equal(got, want) {
		t.Errorf("Write: %x, %v, not %x", got, err, want)
	}
}

func TestReadOfEachLetter(t *testing.T) {
	shape, want, b := some()
	got, err := Read(shape, b)
	if err != nil || !sameFields(got, want) {
		t.Errorf("Read: %v, %v", got, err)
	}
	if got, err := Read("", nil); err != nil || len(got) != 0 {
		t.Errorf("Read of nothing: %v, %v", got, err)
	}
}

func TestRestTellsWhatIsLeft(t *testing.T) {
	shape, want, b := some()
	for n := range 40 {
		behind := stuff(n)
		got, rest, err := Rest(shape, append(bytes.Clone(b), behind...))
		if err != nil || !sameFields(got, want) || !bytes.Equal(rest, behind) {
			t.Errorf("Rest with %d bytes behind: %v, %x, %v", n, got, rest, err)
		}
	}
	if got, rest, err := Rest("", []byte("abc")); err != nil || len(got) != 0 || string(rest) != "abc" {
		t.Errorf("Rest of no field: %v, %q, %v", got, rest, err)
	}
}

func TestTooFewBytes(t *testing.T) {
	shape, _, b := some()
	for n := range len(b) {
		wantReadFault(t, api.ErrShort, shape, b[:n])
		wantRestFault(t, api.ErrShort, shape, b[:n])
	}
	for _, short := range []string{"\x00", "\x00\x01", "\x01\x00abc", "\xff\xff"} {
		wantReadFault(t, api.ErrShort, "t", []byte(short))
		wantTakeFault(t, api.ErrShort, []byte(short), func(i *In) string { return string(i.Text()) })
	}
	for n := range 32 {
		wantReadFault(t, api.ErrShort, "o", stuff(n))
		wantTakeFault(t, api.ErrShort, stuff(n), func(i *In) api.Oid { return i.Oid() })
	}
	for _, g := range greatest {
		for n := range g.size {
			wantReadFault(t, api.ErrShort, string(g.letter), stuff(n))
			wantTakeFault(t, api.ErrShort, stuff(n), func(i *In) int { return i.Num(g.letter) })
		}
	}
	wantReadFault(t, api.ErrShort, strings.Repeat("b", 1000), stuff(999))
}

func TestTooManyBytes(t *testing.T) {
	shape, _, b := some()
	for n := 1; n < 40; n++ {
		wantReadFault(t, api.ErrLong, shape, append(bytes.Clone(b), stuff(n)...))
	}
	wantReadFault(t, api.ErrLong, "", []byte{0})
	wantReadFault(t, api.ErrLong, "t", []byte{0, 1, 'a', 'b'})
}

func TestNumbersAsTheyAreRead(t *testing.T) {
	for _, g := range greatest {
		for _, n := range []int{0, 1, 128, 255, g.most / 3, g.most/2 + 1, g.most} {
			b := figures(uint64(n), g.size)
			got, err := Read(string(g.letter), b)
			if err != nil || !sameFields(got, []Field{{N: n}}) {
				t.Errorf("Read of %c from %x: %v, %v", g.letter, b, got, err)
			}
			taken, err := Take(b, func(i *In) int { return i.Num(g.letter) })
			if err != nil || taken != n {
				t.Errorf("Num of %c from %x: %d, %v", g.letter, b, taken, err)
			}
		}
	}
	for _, n := range []uint64{1 << 62, 1<<62 + 1, 1<<63 - 1, 1 << 63, 1<<63 + 1, math.MaxUint64} {
		b := figures(n, 8)
		wantReadFault(t, api.ErrRange, "q", b)
		wantRestFault(t, api.ErrRange, "q", append(b, 1))
		wantTakeFault(t, api.ErrRange, b, func(i *In) int { return i.Num('q') })
	}
}

func TestTheFirstFieldAtFaultTells(t *testing.T) {
	great := bytes.Repeat([]byte{255}, 8)
	wantReadFault(t, api.ErrRange, "bqb", append([]byte{1}, great...))         // then too short
	wantReadFault(t, api.ErrRange, "qb", append(bytes.Clone(great), 1, 2))     // then too long
	wantReadFault(t, api.ErrShort, "tq", append([]byte{0, 9}, great...))       // then too great
	wantReadFault(t, api.ErrShort, "bq", append([]byte{1}, great[:7]...))      // too short to be too great
	wantRestFault(t, api.ErrRange, "qo", append(bytes.Clone(great), great...)) // then too short
}

func TestWhatIsWrittenIsReadAsItWas(t *testing.T) {
	x := uint64(1)
	next := func(n int) int {
		x = x*6364136223846793005 + 1442695040888963407
		return int((x >> 20) % uint64(n))
	}
	for range 2000 {
		var shape []byte
		var fields []Field
		for range next(12) {
			letter := "bwqot"[next(5)]
			shape = append(shape, letter)
			switch letter {
			case 'o':
				fields = append(fields, Bytes(stuff(next(100) + 32)[:32]))
			case 't':
				fields = append(fields, Bytes(stuff(next(300))))
			default:
				most := greatest[strings.IndexByte("bwq", letter)].most
				fields = append(fields, Num(next(1<<30)<<32%most+next(most)%2))
			}
		}
		b, err := Write(string(shape), fields...)
		if err != nil {
			t.Fatalf("Write of %q: %v", shape, err)
		}
		if got, err := Read(string(shape), b); err != nil || !sameFields(got, fields) {
			t.Fatalf("Read of %q: %v, %v, not %v", shape, got, err, fields)
		}
		got, rest, err := Rest(string(shape), append(b, 'x'))
		if err != nil || !sameFields(got, fields) || string(rest) != "x" {
			t.Fatalf("Rest of %q: %v, %q, %v, not %v", shape, got, rest, err, fields)
		}
	}
}

func TestFields(t *testing.T) {
	if f := Num(-7); f.N != -7 || f.B != nil {
		t.Errorf("Num: %v", f)
	}
	if f := Bytes([]byte{1, 2}); f.N != 0 || !bytes.Equal(f.B, []byte{1, 2}) {
		t.Errorf("Bytes: %v", f)
	}
	if f := Text("a\xff"); f.N != 0 || string(f.B) != "a\xff" {
		t.Errorf("Text: %v", f)
	}
	if len(Bytes(nil).B) != 0 || len(Text("").B) != 0 {
		t.Error("nothing isn't empty")
	}
}

func TestAnswersShareNothing(t *testing.T) {
	shape, fields, b := some()
	room := append(bytes.Clone(b), stuff(20)...)
	before := bytes.Clone(room)
	read, _ := Read(shape, room[:len(b)])
	fresh, rest, _ := Rest(shape, room)
	text, _ := Take(room[5:10], func(i *In) []byte { return i.Text() })
	field := Bytes(room[:4])
	lists := [][]byte{rest, text, field.B}
	for _, f := range slices.Concat(read, fresh) {
		lists = append(lists, f.B)
	}
	told := make([][]byte, len(lists))
	for k := range lists {
		told[k] = bytes.Clone(lists[k])
	}
	for k, list := range lists { // whatever is written over, or behind, all others are as they were
		for j := range list {
			list[j] ^= 255
		}
		_ = append(list, 1, 2, 3)
		for other := k + 1; other < len(lists); other++ {
			if !bytes.Equal(lists[other], told[other]) {
				t.Fatalf("list %d shares memory with list %d", k, other)
			}
		}
	}
	if !bytes.Equal(room, before) {
		t.Error("writing over an answer changed what was given")
	}
	for k, letter := range []byte(shape) {
		written, _ := Write(string(letter), fields[k])
		clear(written)
	}
	if _, want, _ := some(); !sameFields(fields, want) {
		t.Error("Write's answer shares memory with its fields")
	}
}

func TestCallsChangeNothing(t *testing.T) {
	shape, fields, b := some()
	room := append(bytes.Clone(b), stuff(9)...)
	before := bytes.Clone(room)
	kept := make([]Field, len(fields))
	for k, f := range fields {
		kept[k] = Bytes(f.B)
		kept[k].N = f.N
	}
	for range 2 {
		got, err := Write(shape, fields...)
		if err != nil || !bytes.Equal(got, b) || !sameFields(fields, kept) {
			t.Errorf("Write changed its fields, or answers otherwise: %x, %v", got, err)
		}
		if _, err := Read(shape, room[:len(b)]); err != nil || !bytes.Equal(room, before) {
			t.Errorf("Read changed its bytes, or the room behind them, or answers otherwise: %v", err)
		}
		if _, _, err := Rest(shape, room); err != nil || !bytes.Equal(room, before) {
			t.Errorf("Rest changed its bytes, or answers otherwise: %v", err)
		}
	}
}

type pair struct {
	kind int
	id   api.Oid
	name string
	left int
}

func takePair(i *In) pair {
	p := pair{kind: i.Num('b'), id: i.Oid(), name: string(i.Text())}
	p.left = i.Left()
	return p
}

func TestTake(t *testing.T) {
	id := stuff(32)
	b := slices.Concat([]byte{9}, id, []byte{0, 2, 'a', 'b'})
	got, err := Take(b, takePair)
	if want := (pair{9, api.Oid(id), "ab", 0}); err != nil || got != want {
		t.Errorf("Take: %v, %v", got, err)
	}
	for n := range len(b) {
		wantTakeFault(t, api.ErrShort, b[:n], takePair)
	}
	wantTakeFault(t, api.ErrLong, append(b, 0), takePair)
	wantTakeFault(t, api.ErrLong, []byte{0}, func(*In) int { return 5 })
	if got, err := Take(nil, func(*In) string { return "nothing" }); got != "nothing" || err != nil {
		t.Errorf("Take of no bytes: %q, %v", got, err)
	}
}

func TestTakeAnswersNothingBesideAnError(t *testing.T) {
	list, err := Take([]byte{1}, func(*In) []int { return []int{1} })
	if list != nil || !errors.Is(err, api.ErrLong) {
		t.Errorf("a list beside an error: %v, %v", list, err)
	}
	m, err := Take(nil, func(i *In) map[int]int { i.Num('b'); return map[int]int{} })
	if m != nil || !errors.Is(err, api.ErrShort) {
		t.Errorf("a map beside an error: %v, %v", m, err)
	}
}

func TestLeft(t *testing.T) {
	var left []int
	b := append(stuff(45), 0, 3, 1, 2, 3)
	_, err := Take(b, func(i *In) int {
		left = append(left, i.Left())
		i.Num('b')
		left = append(left, i.Left())
		i.Num('w')
		left = append(left, i.Left(), i.Left())
		i.Num('q')
		i.Oid()
		left = append(left, i.Left())
		i.Text()
		left = append(left, i.Left())
		return 0
	})
	if err != nil || !slices.Equal(left, []int{50, 49, 45, 45, 5, 0}) {
		t.Errorf("Left: %v, %v", left, err)
	}
}

func TestTakeReadsByWhatIsLeft(t *testing.T) {
	sum := func(i *In) int {
		n := 0
		for i.Left() > 0 {
			n += i.Num('b')
		}
		return n
	}
	if got, err := Take([]byte{1, 2, 3, 4}, sum); got != 10 || err != nil {
		t.Errorf("Take: %d, %v", got, err)
	}
}

// wrapped is an error that isn't one of api's values.
type wrapped struct{ error }

func (w wrapped) Unwrap() error { return w.error }

func TestFailEndsAll(t *testing.T) {
	for _, want := range []error{api.ErrForm, api.ErrSum, wrapped{api.ErrName}} {
		for _, b := range [][]byte{nil, {1}, stuff(40)} { // ahead of: too long
			behind := false
			got, err := Take(b, func(i *In) int {
				i.Fail(want)
				behind = true
				return 3
			})
			if !errors.Is(err, want) || got != 0 || behind {
				t.Errorf("Fail: %d, %v, not %v (went on: %v)", got, err, want, behind)
			}
		}
	}
	got, err := Take([]byte{1}, func(i *In) int { i.Fail(nil); return 3 })
	if got != 0 || err != nil {
		t.Errorf("Fail of no error: %d, %v", got, err)
	}
}

func TestWhatCanNotBeReadEndsAll(t *testing.T) {
	reads := []func(i *In){
		func(i *In) { i.Num('w') },
		func(i *In) { i.Oid() },
		func(i *In) { i.Text() },
		func(i *In) { i.Num('x') },
		func(i *In) { i.Num('b'); i.Text() },
	}
	for k, read := range reads {
		behind := false
		got, err := Take([]byte{1, 0, 9}, func(i *In) int {
			read(i)
			behind = true
			return 3
		})
		if err == nil || got != 0 || behind {
			t.Errorf("read %d: %d, %v (went on: %v)", k, got, err, behind)
		}
	}
}

// A reader that catches what ends it doesn't take the end back; the first error is told.
func TestAnEndThatIsCaughtIsAnEnd(t *testing.T) {
	quietly := func(deed func()) {
		defer func() { recover() }()
		deed()
	}
	wantTakeFault(t, api.ErrShort, []byte{1}, func(i *In) int {
		quietly(func() { i.Num('w') })
		return 3
	})
	wantTakeFault(t, api.ErrShort, []byte{1}, func(i *In) int {
		quietly(func() { i.Num('w') })
		quietly(func() { i.Fail(api.ErrSum) })
		return i.Num('b')
	})
	behind := false
	wantTakeFault(t, api.ErrSum, []byte{1}, func(i *In) int {
		quietly(func() { i.Fail(api.ErrSum) })
		i.Num('b')
		behind = true
		return 3
	})
	if behind {
		t.Error("there was something to read behind the end")
	}
	wantTakeFault(t, api.ErrSum, []byte{1}, func(i *In) int {
		defer func() {
			recover()
			panic("another one")
		}()
		i.Fail(api.ErrSum)
		return 3
	})
}

func TestTakeOfWhatFailsByItself(t *testing.T) {
	var none []int
	wantTakeFault[int](t, api.ErrForm, nil, nil)
	wantTakeFault[int](t, api.ErrForm, stuff(3), nil)
	wantTakeFault(t, api.ErrForm, []byte{1}, func(i *In) int { return none[i.Num('b')] })
	wantTakeFault(t, api.ErrForm, nil, func(*In) int { panic("a text") })
	wantTakeFault(t, api.ErrForm, nil, func(*In) int { panic(api.ErrSum) })
	wantTakeFault(t, api.ErrForm, nil, func(*In) int { panic(nil) })
}

func TestTakeWithinTake(t *testing.T) {
	two := func(i *In) int {
		inner, err := Take(i.Text(), func(j *In) int { return j.Num('b') })
		if err != nil {
			i.Fail(err)
		}
		return inner*256 + i.Num('b')
	}
	if got, err := Take([]byte{0, 1, 7, 8}, two); got != 7*256+8 || err != nil {
		t.Errorf("Take within Take: %d, %v", got, err)
	}
	wantTakeFault(t, api.ErrLong, []byte{0, 2, 7, 8, 9}, two) // of the inner one alone
	wantTakeFault(t, api.ErrShort, []byte{0, 0, 8}, two)
	behind := 0
	wantTakeFault(t, api.ErrSum, []byte{1}, func(i *In) int {
		Take([]byte{2}, func(j *In) int {
			i.Fail(api.ErrSum)
			behind++
			return 3
		})
		behind++
		return i.Num('b')
	})
	if behind != 0 {
		t.Error("the outer one went on behind its end")
	}
}

// What is kept of a Take, and what never was in one, reads nothing and ends nothing.
func TestInOutsideOfTake(t *testing.T) {
	var kept, failed *In
	Take([]byte{1, 2, 3, 4}, func(i *In) int { kept = i; return i.Num('w') })
	Take(stuff(40), func(i *In) int { failed = i; return i.Num('b') })
	for k, i := range []*In{kept, failed, {}} {
		i.Fail(api.ErrSum)
		if i.Num('b') != 0 || i.Num('q') != 0 || i.Num('x') != 0 || i.Oid() != (api.Oid{}) || len(i.Text()) != 0 || i.Left() != 0 {
			t.Errorf("In %d reads something outside of its Take", k)
		}
	}
	wantTakeFault(t, api.ErrShort, []byte{5}, func(i *In) int { return kept.Num('b') + i.Num('b') + i.Num('b') })
}

func TestCopiesOfAnInGoOnTogether(t *testing.T) {
	got, err := Take([]byte{1, 2, 3}, func(i *In) int {
		j := *i
		return i.Num('b') + 10*j.Num('b') + 100*i.Num('b')
	})
	if got != 321 || err != nil {
		t.Errorf("Take: %d, %v", got, err)
	}
	wantTakeFault(t, api.ErrSum, []byte{1}, func(i *In) int {
		j := *i
		j.Fail(api.ErrSum)
		return i.Num('b')
	})
}
