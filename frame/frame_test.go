package frame

import (
	"bytes"
	"errors"
	"math"
	"slices"
	"strings"
	"testing"

	"cartage/api"
)

func sameError(a, b error) bool {
	return a == nil && b == nil || a != nil && b != nil && errors.Is(a, b)
}

// numbers are those near each edge, far ones, and some whose low bits are those of one that there is.
func numbers() []int {
	list := []int{math.MinInt, math.MinInt + 1, math.MaxInt - 1, math.MaxInt}
	for n := -600; n <= 600; n++ {
		list = append(list, n)
	}
	for _, n := range []int{0, 1, 16, 64, 128, 135} {
		list = append(list, 1<<16+n, 1<<32+n, n-1<<32, math.MinInt+n)
	}
	return list
}

// some is right frames: plain ones, the smallest ones and the greatest ones.
func some() []Frame {
	list := []Frame{
		{},
		{Kind: 1, To: 1},
		{Kind: 255, From: 135, To: 135, Body: []byte("x")},
		{Kind: 2, From: 0, To: 16, Body: []byte{}},
		{Kind: 3, From: 64, To: 64, Body: []byte("cart")},
		{Kind: 4, From: 128, To: 0, Body: body(255)},
		{Kind: 5, From: 16, To: 128, Body: body(256)},
		{Kind: 6, From: 1, To: 64, Body: body(257)},
		{Kind: 7, From: 7, To: 7, Body: make([]byte, 40)},
		{Kind: 8, From: 129, To: 0, Body: body(2999)},
		{Kind: 9, From: 0, To: 134, Body: body(3000)},
		{Kind: 10, From: 10, To: 0, Body: make([]byte, 3000)},
	}
	inner := plainBytes(list[2])
	return append(list, Frame{Kind: 11, From: 2, To: 3, Body: inner}) // a frame within a frame
}

func TestExample(t *testing.T) {
	b, err := Bytes(Frame{Kind: 1, From: 0, To: 1})
	if err != nil || string(b) != "cart\x01\x00\x01\x00\x00\x35\xc5\x6d\xc5" || len(b) != 13 {
		t.Errorf("kind 1, from 0 to 1, no body: %x, %v", b, err)
	}
}

func TestWhoThereIs(t *testing.T) {
	if Router != 0 || Mover != 64 || Clients != 128 {
		t.Errorf("router %d, mover %d, clients from %d on", Router, Mover, Clients)
	}
	count := 0
	for _, n := range numbers() {
		name, is := plainNames[n]
		if Who(n) != is {
			t.Errorf("Who of %d: %v", n, Who(n))
		}
		if Name(n) != name {
			t.Errorf("Name of %d: %q, not %q", n, Name(n), name)
		}
		if is {
			count++
		}
	}
	if count != len(plainNames) || count != 26 {
		t.Errorf("%d of %d were asked", count, len(plainNames))
	}
}

func TestShard(t *testing.T) {
	for _, n := range numbers() {
		want := 0
		if strings.HasPrefix(plainNames[n], "shard") {
			want = n
		}
		if Shard(n) != want {
			t.Errorf("Shard of %d: %d, not %d", n, Shard(n), want)
		}
	}
}

func TestBytesWrittenOut(t *testing.T) {
	cases := []struct {
		f    Frame
		want string
	}{
		{Frame{}, "cart\x00\x00\x00\x00\x00\xad\xcd\x48\xc7"},
		{Frame{Kind: 2, From: 0, To: 16}, "cart\x02\x00\x10\x00\x00\x2b\x85\x15\x68"},
		{Frame{Kind: 255, From: 64, To: 135, Body: []byte("abc")}, "cart\xff\x40\x87\x00\x03abc\xe9\x71\x5d\x4b"},
	}
	for _, c := range cases {
		if b, err := Bytes(c.f); err != nil || string(b) != c.want {
			t.Errorf("Bytes of %v: %q, %v, not %q", c.f, b, err, c.want)
		}
		if f, err := Parse([]byte(c.want)); err != nil || !plainSame(f, c.f) {
			t.Errorf("Parse of %q: %v, %v, not %v", c.want, f, err, c.f)
		}
	}
}

func TestWhatIsRight(t *testing.T) {
	for _, f := range some() {
		b := wantBytes(t, f)
		if len(b) != 13+len(f.Body) {
			t.Errorf("Bytes of %v: %d", f, len(b))
		}
		if got, err := wantParse(t, b); err != nil || !Same(got, f) {
			t.Errorf("Parse of %q: %v, %v, not %v", b, got, err, f)
		}
	}
}

// All numbers near an edge, at each of the three places.
func TestEachNumber(t *testing.T) {
	for _, n := range numbers() {
		wantBytes(t, Frame{Kind: n, From: 0, To: 1})
		wantBytes(t, Frame{Kind: 1, From: n, To: 1})
		wantBytes(t, Frame{Kind: 1, From: 0, To: n})
		wantBytes(t, Frame{Kind: n, From: n, To: n})
	}
	for n := range 256 {
		wantParse(t, plainBytes(Frame{Kind: n, From: 0, To: 1, Body: body(5)}))
		wantParse(t, plainBytes(Frame{Kind: 1, From: n, To: 1, Body: body(5)}))
		wantParse(t, plainBytes(Frame{Kind: 1, From: 0, To: n, Body: body(5)}))
	}
}

func TestEachLength(t *testing.T) {
	for n := range 3100 {
		f := Frame{Kind: 1, From: 128, Body: body(n)}
		wantBytes(t, f)
		wantParse(t, plainBytes(f))
	}
	for _, n := range []int{4000, 1<<15 - 1, 1 << 15, 1<<16 - 1} {
		f := Frame{Kind: 1, From: 128, Body: body(n)}
		wantBytes(t, f)
		if _, err := wantParse(t, plainBytes(f)); !errors.Is(err, api.ErrLarge) {
			t.Errorf("Parse of a body of %d bytes: %v", n, err)
		}
	}
	for _, n := range []int{1 << 16, 1<<16 + 1, 1<<16 + 3000, 1<<17 + 2} { // a text has no such length
		b, err := Bytes(Frame{Kind: 1, From: 128, Body: body(n)})
		if b != nil || !errors.Is(err, api.ErrLarge) {
			t.Errorf("Bytes of a body of %d bytes: %d, %v", n, len(b), err)
		}
	}
}

// What is out of its range is told ahead of a body that is too large.
func TestOrderOfBytesErrors(t *testing.T) {
	for choice := range 32 {
		f := Frame{Kind: 1, From: 0, To: 1, Body: body(3000)}
		want := error(nil)
		if choice&8 > 0 {
			f.Body, want = body(3001), api.ErrLarge
		}
		for k, place := range []*int{&f.Kind, &f.From, &f.To} {
			if choice>>k&1 > 0 {
				*place, want = 256-choice>>4*257, api.ErrRange // 256, or -1
			}
		}
		if _, err := Bytes(f); !sameError(err, want) {
			t.Errorf("Bytes, choice %b: %v, not %v", choice, err, want)
		}
		wantBytes(t, f)
	}
}

// All choices of what may be wrong at once: the first of them is told.
func TestOrderOfParseErrors(t *testing.T) {
	for choice := range 64 {
		f := Frame{Kind: 1, From: 0, To: 1, Body: body(3000)}
		want := error(nil)
		if choice&1 > 0 {
			f.Body, want = body(3001), api.ErrLarge
		}
		if choice&2 > 0 {
			f.From, want = 17, api.ErrRange
		}
		if choice&4 > 0 {
			f.To, want = 136, api.ErrRange
		}
		b := plainBytes(f)
		if choice&8 > 0 {
			b[len(b)-1]++
			want = api.ErrSum
		}
		if choice&16 > 0 {
			b, want = append(b, 0), api.ErrLong
		}
		if choice&32 > 0 {
			b[3], want = 'd', api.ErrForm
		}
		if _, err := wantParse(t, b); !sameError(err, want) {
			t.Errorf("Parse, choice %b: %v, not %v", choice, err, want)
		}
		short := b[:len(b)-2-choice>>4&1]
		if want = api.ErrShort; choice&32 > 0 {
			want = api.ErrForm
		}
		if _, err := wantParse(t, short); !sameError(err, want) {
			t.Errorf("Parse, choice %b, cut: %v, not %v", choice, err, want)
		}
	}
}

// Fewer than four bytes are too few, whatever they are.
func TestParseOfFewBytes(t *testing.T) {
	for _, s := range []string{"", "c", "ca", "car", "x", "xy", "xyz", "\x00\x00\x00", "art", "tra"} {
		if f, err := Parse([]byte(s)); !plainSame(f, Frame{}) || !errors.Is(err, api.ErrShort) {
			t.Errorf("Parse of %q: %v, %v", s, f, err)
		}
	}
	if f, err := Parse(nil); !plainSame(f, Frame{}) || !errors.Is(err, api.ErrShort) {
		t.Errorf("Parse of nil: %v, %v", f, err)
	}
	for _, s := range []string{"xyzw", "Cart", "carT", "tart", "cars", "trac", "\x00\x00\x00\x00", "acrt", "CART", "cat\x00"} {
		for _, behind := range []string{"", "x", "\x01\x00\x01\x00\x00\x35\xc5\x6d\xc5", "\x01\x00\x01\x00\x00\x35\xc5\x6d\xc5 and more"} {
			if f, err := Parse([]byte(s + behind)); !plainSame(f, Frame{}) || !errors.Is(err, api.ErrForm) {
				t.Errorf("Parse of %q: %v, %v", s+behind, f, err)
			}
		}
	}
	if f, err := Parse([]byte("cart")); !plainSame(f, Frame{}) || !errors.Is(err, api.ErrShort) {
		t.Errorf("Parse of cart: %v, %v", f, err)
	}
}

func TestParseOfBytesThatAreCutOrLeft(t *testing.T) {
	for _, f := range some() {
		b := plainBytes(f)
		for n := range b {
			if _, err := wantParse(t, b[:n]); !errors.Is(err, api.ErrShort) {
				t.Fatalf("Parse of %q, %d bytes: %v", b, n, err)
			}
		}
		for _, more := range []string{"\x00", "c", "\x00\x00\x00\x00", string(b)} {
			if _, err := wantParse(t, append(bytes.Clone(b), more...)); !errors.Is(err, api.ErrLong) {
				t.Fatalf("Parse of %q, and %q: %v", b, more, err)
			}
		}
	}
}

// Whichever bit is another one, it is noticed: by its sum, at least.
func TestParseOfChangedBytes(t *testing.T) {
	for _, f := range some() {
		b := plainBytes(f)
		for bit := range 8 * len(b) {
			if len(b) > 1000 && 9*8 < bit && bit < len(b)*8-4*8 && bit%61 > 0 {
				continue // of a long body some will do
			}
			other := bytes.Clone(b)
			other[bit/8] ^= 1 << (bit % 8)
			got, err := Parse(other)
			want := api.ErrSum
			switch at := bit / 8; {
			case at < 4:
				want = api.ErrForm
			case at == 7 || at == 8: // the body's length
				want = api.ErrLong
				if other[at] > b[at] {
					want = api.ErrShort
				}
			}
			if !errors.Is(err, want) || !plainSame(got, Frame{}) || got.Body != nil {
				t.Fatalf("Parse of %q, bit %d another one: %v, %v, not %v", b, bit, got, err, want)
			}
		}
		if len(b) > 300 {
			continue
		}
		step := 1 // all values of the short frames' bytes
		if len(b) > 60 {
			step = 37
		}
		for k := range b {
			for c := 0; c < 256; c += step {
				other := bytes.Clone(b)
				other[k] = byte(c)
				wantParse(t, other)
				wantParse(t, summed(other[:len(b)-4]))
			}
			wantParse(t, slices.Delete(bytes.Clone(b), k, k+1))
			wantParse(t, slices.Insert(bytes.Clone(b), k, b[k]))
		}
	}
}

// The sum is the digest's first four bytes, as they stand there, of all ahead of it, and no others.
func TestParseOfOtherSums(t *testing.T) {
	for _, f := range some() {
		b := front(f)
		whole := plainBytes(f)
		sum := whole[len(b):]
		back := bytes.Clone(sum)
		slices.Reverse(back)
		for what, other := range map[string][]byte{
			"noughts":        make([]byte, 4),
			"from back":      back,
			"one more":       {sum[0], sum[1], sum[2], sum[3] + 1},
			"of the body":    summed(f.Body)[len(f.Body):],
			"but the mark":   summed(b[4:])[len(b)-4:],
			"with the sum":   summed(whole)[len(whole):],
			"of the numbers": summed(b[:9])[9:],
		} {
			want := error(api.ErrSum)
			if bytes.Equal(other, sum) { // nothing stands behind the numbers
				want = nil
			}
			if _, err := wantParse(t, append(bytes.Clone(b), other...)); !sameError(err, want) {
				t.Errorf("Parse of %q with the sum %s: %v", b, what, err)
			}
		}
	}
}

func TestOfManyFrames(t *testing.T) {
	c := &chance{1}
	right := 0
	for range 20000 {
		f := c.frame()
		b := wantBytes(t, f)
		got, err := wantParse(t, plainBytes(f))
		if (err == nil) != (b != nil) {
			t.Fatalf("%v has bytes: %v, is parsed: %v", f, b != nil, err)
		}
		if err == nil {
			right++
			if !Same(got, f) {
				t.Fatalf("Parse of %q: %v, not %v", b, got, f)
			}
		}
	}
	if right < 14000 || right > 19000 {
		t.Errorf("%d of the frames were right", right)
	}
}

// P15.2: whatever bytes are parsed, they are those of what they are parsed as.
func TestEachFrameHasOneText(t *testing.T) {
	c := &chance{2}
	frames := 0
	byText := map[string]string{}
	for range 30000 {
		b := front(c.frame())
		for range c.below(3) {
			at := c.below(len(b))
			if c.below(2) == 0 {
				at = min(at, c.below(9))
			}
			b[at] = byte([]int{0, 1, 64, 128, 255, c.below(256)}[c.below(6)])
		}
		if c.below(8) > 0 {
			b = summed(b)
		}
		if c.below(10) == 0 {
			b = b[:c.below(len(b)+1)]
		}
		f, err := wantParse(t, b)
		if err != nil {
			continue
		}
		frames++
		if again := wantBytes(t, f); !bytes.Equal(again, b) {
			t.Fatalf("the bytes of what is parsed of %q: %q", b, again)
		}
		if other, has := byText[string(b)]; has && other != told(f) {
			t.Fatalf("%v and %s have the same bytes", f, other)
		}
		byText[string(b)] = told(f)
	}
	if frames < 10000 || len(byText) < 5000 {
		t.Errorf("%d of the bytes were frames, %d others", frames, len(byText))
	}
}

func TestParseOfAnyBytes(t *testing.T) {
	c := &chance{3}
	for range 20000 {
		b := c.bytes(c.below(40))
		wantParse(t, b)
		wantParse(t, append([]byte("cart"), b...))
		wantParse(t, summed(append([]byte("cart"), b...)))
		wantParse(t, summed(front(Frame{Kind: c.below(256), From: c.below(256), To: c.below(256), Body: b})))
	}
}

func TestSame(t *testing.T) {
	full := func() Frame { return Frame{Kind: 3, From: 1, To: 64, Body: []byte("abc")} }
	others := map[string]func(f *Frame){
		"kind":               func(f *Frame) { f.Kind++ },
		"a kind far away":    func(f *Frame) { f.Kind += 256 },
		"from":               func(f *Frame) { f.From++ },
		"to":                 func(f *Frame) { f.To++ },
		"from and to":        func(f *Frame) { f.From, f.To = f.To, f.From },
		"kind and from":      func(f *Frame) { f.Kind, f.From = f.From, f.Kind },
		"the last byte":      func(f *Frame) { f.Body[2]++ },
		"the first byte":     func(f *Frame) { f.Body[0]++ },
		"a byte less":        func(f *Frame) { f.Body = f.Body[:2] },
		"a byte more":        func(f *Frame) { f.Body = append(f.Body, 0) },
		"no body":            func(f *Frame) { f.Body = nil },
		"an empty body":      func(f *Frame) { f.Body = []byte{} },
		"the bytes' order":   func(f *Frame) { slices.Reverse(f.Body) },
		"another one at all": func(f *Frame) { *f = Frame{} },
	}
	for what, change := range others {
		f := full()
		change(&f)
		if Same(f, full()) || Same(full(), f) {
			t.Errorf("%s is another, and they are the same", what)
		}
		if !Same(f, f) {
			t.Errorf("%s is another, and it isn't the same as itself", what)
		}
	}
	if !Same(full(), full()) || !Same(Frame{}, Frame{Body: []byte{}}) || !Same(Frame{Body: []byte{}}, Frame{}) {
		t.Error("what is the same isn't")
	}
	wrong := Frame{Kind: -1, From: math.MaxInt, To: math.MinInt, Body: body(4000)}
	if !Same(wrong, wrong) || Same(wrong, Frame{Kind: -1, From: math.MaxInt, To: math.MaxInt, Body: body(4000)}) {
		t.Error("frames that aren't right aren't told apart")
	}
}

func TestSameOfEachPair(t *testing.T) {
	c := &chance{4}
	var list []Frame
	for range 60 {
		f := Frame{c.below(2), c.below(2), c.below(2), c.bytes(c.below(3))}
		list = append(list, f, Frame{f.Kind, f.From, f.To, bytes.Clone(f.Body)})
	}
	for _, a := range list {
		for _, b := range list {
			if Same(a, b) != plainSame(a, b) {
				t.Fatalf("Same of %v and %v: %v", a, b, Same(a, b))
			}
		}
	}
}

func TestBytesSharesNothing(t *testing.T) {
	for _, f := range append(some(), Frame{Kind: 300, Body: body(9)}, Frame{Body: body(3001)}) {
		room := append(bytes.Clone(f.Body), "the room behind"...)
		before := bytes.Clone(room)
		f.Body = room[:len(f.Body)]
		first, err := Bytes(f)
		second, again := Bytes(f)
		Same(f, f)
		if !sameError(err, again) || !bytes.Equal(first, second) || !bytes.Equal(room, before) {
			t.Fatalf("Bytes of %v: %q, %v, and then %q, %v, or its body was changed", f, first, err, second, again)
		}
		kept := bytes.Clone(second)
		clear(first[:cap(first)])
		_ = append(second, "more and more"...)
		if !bytes.Equal(second, kept) || !bytes.Equal(room, before) {
			t.Fatalf("writing over one answer changed another one, or the body: %v", f)
		}
		clear(room)
		if !bytes.Equal(second, kept) {
			t.Fatalf("writing over the body changed the answer: %v", f)
		}
	}
}

func TestParseSharesNothing(t *testing.T) {
	for _, want := range some() {
		b := plainBytes(want)
		room := append(bytes.Clone(b), "the room behind"...)
		before := bytes.Clone(room)
		first, err := Parse(room[:len(b)])
		second, again := Parse(room[:len(b)])
		if err != nil || again != nil || !bytes.Equal(room, before) {
			t.Fatalf("Parse of %q: %v, %v, or its bytes were changed", b, err, again)
		}
		clear(first.Body[:cap(first.Body)])
		_ = append(first.Body, "more and more"...)
		if !bytes.Equal(room, before) || !plainSame(second, want) {
			t.Fatalf("writing over one answer changed the other one, or the bytes: %v", want)
		}
		clear(room)
		if !plainSame(second, want) {
			t.Fatalf("writing over the bytes changed %v", want)
		}
	}
}
