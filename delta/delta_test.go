package delta

import (
	"bytes"
	"errors"
	"slices"
	"strings"
	"testing"

	"cartage/api"
)

func wantApply(t *testing.T, base, delta []byte) {
	t.Helper()
	want, fault := plainApply(base, delta)
	got, err := Apply(base, delta)
	if !errors.Is(err, fault) || (fault != nil) != (err != nil) || !bytes.Equal(got, want) || err != nil && got != nil {
		t.Fatalf("Apply of %q to %d bytes %q: %q, %v, not %q, %v", delta, len(base), base[:min(len(base), 20)], got, err, want, fault)
	}
}

func wantFault(t *testing.T, want error, base string, delta []byte) {
	t.Helper()
	if got, err := Apply([]byte(base), delta); !errors.Is(err, want) || got != nil {
		t.Errorf("Apply of %q to %d bytes: %q, %v, not %v", delta, len(base), got, err, want)
	}
	if _, err := plainApply([]byte(base), delta); !errors.Is(err, want) {
		t.Errorf("the plain one of %q to %d bytes: %v, not %v", delta, len(base), err, want)
	}
}

func wantSteps(t *testing.T, delta []byte) {
	t.Helper()
	copies, fresh, fault := plainSteps(delta)
	c, f, err := Steps(delta)
	if c != copies || f != fresh || !errors.Is(err, fault) || (fault != nil) != (err != nil) {
		t.Fatalf("Steps of %q: %d, %d, %v, not %d, %d, %v", delta, c, f, err, copies, fresh, fault)
	}
	if err != nil && (c != 0 || f != 0) {
		t.Fatalf("Steps of %q: %d, %d beside an error", delta, c, f)
	}
}

// wantMake wants the delta that the plain one makes, and that it makes the target.
func wantMake(t *testing.T, base, target []byte) {
	t.Helper()
	want, _ := plainMake(base, target)
	got, err := Make(base, target)
	if err != nil || !bytes.Equal(got, want) {
		t.Fatalf("Make of %q to %q: %q, %v, not %q", base, target, got, err, want)
	}
	if text, err := Apply(base, got); err != nil || !bytes.Equal(text, target) {
		t.Fatalf("Apply of what Make made of %q to %q: %q, %v", base, target, text, err)
	}
	if from, to, err := Sizes(got); err != nil || from != len(base) || to != len(target) {
		t.Fatalf("Sizes of what Make made of %q to %q: %d, %d, %v", base, target, from, to, err)
	}
	wantSteps(t, got)
}

func TestExample(t *testing.T) {
	got, err := Make([]byte("abcdef"), []byte("abcdeX"))
	if err != nil || string(got) != "\x00\x06\x00\x06\x85\x00\x00\x01X" {
		t.Fatalf("Make of abcdef to abcdeX: %q, %v", got, err)
	}
	if text, err := Apply([]byte("abcdef"), got); err != nil || string(text) != "abcdeX" {
		t.Errorf("Apply of %q: %q, %v", got, text, err)
	}
	if copies, fresh, err := Steps(got); err != nil || copies != 1 || fresh != 1 {
		t.Errorf("Steps of %q: %d, %d, %v", got, copies, fresh, err)
	}
}

func TestMakeOfKnownTexts(t *testing.T) {
	many := strings.Repeat
	cases := []struct{ base, target, want string }{
		{"", "", "\x00\x00\x00\x00"},
		{"abcd", "", "\x00\x04\x00\x00"},
		{"", "abcd", "\x00\x00\x00\x04\x04abcd"},
		{"abcd", "abcd", "\x00\x04\x00\x04\x84\x00\x00"},
		{"abc", "abc", "\x00\x03\x00\x03\x03abc"}, // three bytes aren't copied
		{"abcx", "abcd", "\x00\x04\x00\x04\x04abcd"},
		{"xabcd", "abcdy", "\x00\x05\x00\x05\x84\x00\x01\x01y"},
		{"abcdeabcdef", "abcdef", "\x00\x0b\x00\x06\x86\x00\x05"},                                // the longest one, not the first one
		{"abcdef abcdef", "abcdef", "\x00\x0d\x00\x06\x86\x00\x00"},                              // of two as long the first one
		{"abcdXbcdefgh", "abcdefgh", "\x00\x0c\x00\x08\x84\x00\x00\x84\x00\x08"},                 // from the beginning on, though more could be copied from the second byte on
		{"abcdefgh", "efghabcd", "\x00\x08\x00\x08\x84\x00\x04\x84\x00\x00"},                     // in another order
		{"abcd", "abcdabcdxabcd", "\x00\x04\x00\x0d\x84\x00\x00\x84\x00\x00\x01x\x84\x00\x00"},   // again and again
		{"abcd", "xyabczabcd", "\x00\x04\x00\x0a\x06xyabcz\x84\x00\x00"},                         // fresh bytes are together
		{"aaaa", "aaaaaaa", "\x00\x04\x00\x07\x84\x00\x00\x03aaa"},                               // no further than the base
		{many("a", 127), many("a", 127), "\x00\x7f\x00\x7f\xff\x00\x00"},                         // as long as may be
		{many("a", 300), many("a", 128), "\x01\x2c\x00\x80\xff\x00\x00\x01a"},                    // and no longer
		{many("a", 300), many("a", 258), "\x01\x2c\x01\x02\xff\x00\x00\xff\x00\x00\x84\x00\x00"}, // from the first place each time
		{many("a", 256) + "bcde", "bcde", "\x01\x04\x00\x04\x84\x01\x00"},
		{many("a", 296) + "bcde", "bcde", "\x01\x2c\x00\x04\x84\x01\x28"},
		{"", many("x", 127), "\x00\x00\x00\x7f\x7f" + many("x", 127)},
		{"", many("x", 128), "\x00\x00\x00\x80\x7f" + many("x", 127) + "\x01x"},
		{"", many("x", 254), "\x00\x00\x00\xfe\x7f" + many("x", 127) + "\x7f" + many("x", 127)},
		{"", many("x", 300), "\x00\x00\x01\x2c\x7f" + many("x", 127) + "\x7f" + many("x", 127) + "\x2e" + many("x", 46)},
		{"abcd", many("x", 128) + "abcd" + many("y", 128),
			"\x00\x04\x01\x04\x7f" + many("x", 127) + "\x01x\x84\x00\x00\x7f" + many("y", 127) + "\x01y"},
	}
	for _, c := range cases {
		if got, err := Make([]byte(c.base), []byte(c.target)); err != nil || string(got) != c.want {
			t.Errorf("Make of %q to %q: %q, %v, not %q", c.base, c.target, got, err, c.want)
		}
		wantMake(t, []byte(c.base), []byte(c.target))
	}
}

func TestMakeOfTooManyBytes(t *testing.T) {
	for _, n := range []int{0, 1, 300, 301, 302, 65535, 65536, 1 << 20} {
		for _, m := range []int{0, 1, 300, 301, 302, 65535, 65536, 1 << 20} {
			got, err := Make(make([]byte, n), make([]byte, m))
			if n <= 300 && m <= 300 {
				if err != nil {
					t.Errorf("Make of %d to %d bytes: %v", n, m, err)
				}
				continue
			}
			if !errors.Is(err, api.ErrLarge) || got != nil {
				t.Errorf("Make of %d to %d bytes: %d bytes, %v", n, m, len(got), err)
			}
		}
	}
}

func TestMakeOfAllShortTexts(t *testing.T) {
	var texts [][]byte
	for n := range 9 {
		for k := range 1 << n {
			b := make([]byte, n)
			for i := range b {
				b[i] = byte('a' + k>>i&1)
			}
			texts = append(texts, b)
		}
	}
	for _, base := range texts {
		for _, target := range texts {
			wantMake(t, base, target)
		}
	}
}

func TestMakeOfManyTexts(t *testing.T) {
	c := &chance{1}
	copies, fresh := 0, 0
	for range 6000 {
		letters := []int{1, 2, 3, 26, 256}[c.below(5)]
		base := c.text(c.below(301), letters)
		target := c.near(base, letters)
		if c.below(4) == 0 {
			target = c.text(c.below(301), letters)
		}
		wantMake(t, base, target)
		delta, _ := Make(base, target)
		n, m, _ := Steps(delta)
		copies, fresh = copies+n, fresh+m
	}
	if copies < 5000 || fresh < 5000 {
		t.Errorf("%d copies, %d fresh steps", copies, fresh)
	}
}

// A copy is as long as what both have, to each length.
func TestMakeOfEachLength(t *testing.T) {
	all := make([]byte, 300)
	for k := range all {
		all[k] = byte(k / 2 * (k%2 + 1) % 251)
	}
	for from := 0; from < 300; from += 7 {
		for n := range 300 - from {
			wantMake(t, all, all[from:from+n+1])
			wantMake(t, all[from:from+n+1], all)
		}
	}
}

func TestSizes(t *testing.T) {
	for n := range 4 {
		from, to, err := Sizes(bytes.Repeat([]byte{1}, n))
		if !errors.Is(err, api.ErrShort) || from != 0 || to != 0 {
			t.Errorf("Sizes of %d bytes: %d, %d, %v", n, from, to, err)
		}
	}
	cases := []struct {
		delta    string
		from, to int
	}{
		{"\x00\x00\x00\x00", 0, 0},
		{"\x00\x01\x00\x02", 1, 2},
		{"\x01\x00\x02\x00", 256, 512},
		{"\x12\x34\xab\xcd", 0x1234, 0xabcd},
		{"\xff\xff\xff\xff", 65535, 65535},
		{"\x00\x01\x00\x02\x00", 1, 2}, // whatever the steps are
		{"\x00\x01\x00\x02\x80\x80\x05", 1, 2},
		{"\x00\x01\x00\x02\x01x\x81\x00\x00", 1, 2},
	}
	for _, c := range cases {
		if from, to, err := Sizes([]byte(c.delta)); err != nil || from != c.from || to != c.to {
			t.Errorf("Sizes of %q: %d, %d, %v", c.delta, from, to, err)
		}
	}
	if from, to, err := Sizes(nil); !errors.Is(err, api.ErrShort) || from != 0 || to != 0 {
		t.Errorf("Sizes of none: %d, %d, %v", from, to, err)
	}
}

func TestApplyOfKnownDeltas(t *testing.T) {
	many := strings.Repeat
	long := many("0123456789", 6553) + "abcde" // as long as a base may be told to be
	cases := []struct{ base, delta, want string }{
		{"", "\x00\x00\x00\x00", ""},
		{"ab", "\x00\x02\x00\x00", ""},
		{"ab", "\x00\x02\x00\x02\x82\x00\x00", "ab"},
		{"ab", "\x00\x02\x00\x01\x81\x00\x01", "b"}, // copies of fewer than four bytes are right
		{"ab", "\x00\x02\x00\x04\x81\x00\x01\x81\x00\x00\x82\x00\x00", "baab"},
		{"", "\x00\x00\x00\x01\x01x", "x"},
		{"", "\x00\x00\x00\x03\x01x\x02yz", "xyz"}, // and so are fresh steps that could be one
		{"", "\x00\x00\x00\x02\x02\x80\x00", "\x80\x00"},
		{"", "\x00\x00\x00\x7f\x7f" + many("x", 127), many("x", 127)},
		{many("ab", 64), "\x00\x80\x00\x7f\xff\x00\x01", many("ba", 63) + "b"},
		{many("a", 300), "\x01\x2c\x01\x2c\xff\x00\x00\xff\x00\x7f\xae\x00\xfe", many("a", 300)},
		{many("a", 256) + "b", "\x01\x01\x00\x02\x82\x00\xff", "ab"},
		{many("a", 256) + "b", "\x01\x01\x00\x01\x81\x01\x00", "b"},
		{long, "\xff\xff\x00\x08\x84\xff\xfb\x81\xff\xfe\x03\x00\x01\x02", "bcdee\x00\x01\x02"},
	}
	for _, c := range cases {
		if got, err := Apply([]byte(c.base), []byte(c.delta)); err != nil || string(got) != c.want {
			t.Errorf("Apply of %q to %d bytes: %q, %v, not %q", c.delta, len(c.base), got, err, c.want)
		}
		wantApply(t, []byte(c.base), []byte(c.delta))
	}
}

// Each error as the chapter names it, ahead of those that it names later.
func TestApplyTellsErrorsInTheirOrder(t *testing.T) {
	many := strings.Repeat
	cases := []struct {
		want        error
		base, delta string
	}{
		{api.ErrShort, "abc", ""},
		{api.ErrShort, "abc", "\x00"},
		{api.ErrShort, "abc", "\xff\xff\xff"},

		{api.ErrState, "abc", "\x00\x02\x00\x00"},
		{api.ErrState, "abc", "\x00\x04\x00\x00"},
		{api.ErrState, "abc", "\x03\x00\x00\x00"},
		{api.ErrState, "", "\x00\x01\x00\x00"},
		{api.ErrState, "abc", "\x00\x02\xff\xff\x00"},            // ahead of ErrLarge
		{api.ErrState, many("a", 65536), "\x00\x00\x00\x01\x00"}, // no number goes round
		{api.ErrState, many("a", 65539), "\x00\x03\x00\x00"},

		{api.ErrLarge, "abc", "\x00\x03\x01\x2d"},
		{api.ErrLarge, "abc", "\x00\x03\xff\xff"},
		{api.ErrLarge, "abc", "\x00\x03\x01\x2d\x00"}, // ahead of the steps' errors
		{api.ErrLarge, "abc", "\x00\x03\x01\x2d\x81\x00"},
		{api.ErrLarge, "abc", "\x00\x03\x01\x2d\x81\x00\x09"},

		{api.ErrForm, "abc", "\x00\x03\x00\x00\x00"},
		{api.ErrForm, "abc", "\x00\x03\x00\x00\x80"},
		{api.ErrForm, "abc", "\x00\x03\x00\x00\x80\x00\x00"},
		{api.ErrForm, "abc", "\x00\x03\x00\x01\x01x\x00"},
		{api.ErrForm, "abc", "\x00\x03\x00\x01\x01x\x80\x00\x00"},
		{api.ErrForm, "abc", "\x00\x03\x00\x05\x01x\x80\xff"}, // ahead of what is told behind the last step

		{api.ErrShort, "abc", "\x00\x03\x00\x01\x01"},
		{api.ErrShort, "abc", "\x00\x03\x00\x02\x02x"},
		{api.ErrShort, "abc", "\x00\x03\x00\x7f\x7f" + many("x", 126)},
		{api.ErrShort, "abc", "\x00\x03\x00\x01\x81"},
		{api.ErrShort, "abc", "\x00\x03\x00\x01\x81\x00"},
		{api.ErrShort, "abc", "\x00\x03\x00\x01\x81\xff"},      // ahead of ErrRange
		{api.ErrShort, "abc", "\x00\x03\x00\x01\x82\x00"},      // ahead of ErrLong
		{api.ErrShort, "abc", "\x00\x03\x00\x01\x05xy"},        // ahead of ErrLong
		{api.ErrShort, "abc", "\x00\x03\x00\x01\x01x\x02y"},    // ahead of ErrLong
		{api.ErrShort, "abc", "\x00\x03\x00\x01\x01x\x82\x00"}, // ahead of ErrLong

		{api.ErrRange, "abc", "\x00\x03\x00\x01\x81\x00\x03"},
		{api.ErrRange, "abc", "\x00\x03\x00\x02\x82\x00\x02"},
		{api.ErrRange, "abc", "\x00\x03\x00\x04\x84\x00\x00"},
		{api.ErrRange, "abc", "\x00\x03\x00\x01\x81\xff\xff"},
		{api.ErrRange, "abc", "\x00\x03\x00\x7f\xff\xff\x81"}, // no place goes round
		{api.ErrRange, "", "\x00\x00\x00\x01\x81\x00\x00"},
		{api.ErrRange, "abc", "\x00\x03\x00\x01\x82\x00\x02"},     // ahead of ErrLong
		{api.ErrRange, "abc", "\x00\x03\x00\x00\x81\x00\x03\x00"}, // ahead of a later step's error
		{api.ErrRange, "abc", "\x00\x03\x00\x01\x81\x00\x03\x01"}, // ahead of a later step's error
		{api.ErrRange, many("a", 256), "\x01\x00\x00\x01\x81\x01\x00"},

		{api.ErrLong, "abc", "\x00\x03\x00\x00\x01x"},
		{api.ErrLong, "abc", "\x00\x03\x00\x00\x81\x00\x00"},
		{api.ErrLong, "abc", "\x00\x03\x00\x01\x02xy"},
		{api.ErrLong, "abc", "\x00\x03\x00\x01\x01x\x01y"},
		{api.ErrLong, "abc", "\x00\x03\x00\x05\x83\x00\x00\x83\x00\x00"},
		{api.ErrLong, "abc", "\x00\x03\x00\x01\x02xy\x00"},         // ahead of a later step's error
		{api.ErrLong, "abc", "\x00\x03\x00\x01\x02xy\x81\x00\x09"}, // ahead of a later step's error
		{api.ErrLong, many("a", 300), "\x01\x2c\x01\x2c\xff\x00\x00\xff\x00\x00\xaf\x00\x00"},

		{api.ErrShort, "abc", "\x00\x03\x00\x01"},
		{api.ErrShort, "abc", "\x00\x03\x01\x2c"},
		{api.ErrShort, "abc", "\x00\x03\x00\x03\x02xy"},
		{api.ErrShort, "abc", "\x00\x03\x00\x04\x83\x00\x00"},
	}
	for _, c := range cases {
		wantFault(t, c.want, c.base, []byte(c.delta))
	}
}

// All steps of few bytes, and all sizes of a few bytes.
func TestApplyAndStepsOfAllShortDeltas(t *testing.T) {
	tails := [][]byte{nil}
	for k := 0; len(tails[k]) < 5; k++ { // each tail but the longest ones, and each byte behind it
		for _, b := range []byte{0, 1, 2, 3, 127, 128, 129, 130, 131, 255} {
			tails = append(tails, append(slices.Clip(tails[k]), b))
		}
	}
	if len(tails) != 111111 {
		t.Fatalf("%d tails", len(tails))
	}
	for _, tail := range tails {
		for to := range 5 {
			wantApply(t, []byte("abc"), slices.Concat(pair(3, to), tail))
		}
		wantSteps(t, slices.Concat([]byte("what"), tail))
	}
}

func TestApplyOfEachCopy(t *testing.T) {
	c := &chance{2}
	for _, size := range []int{0, 1, 127, 128, 255, 256, 257, 300, 400, 65535} {
		base := c.text(size, 256)
		for n := range 127 {
			for _, from := range []int{0, 1, 127, 128, 255, 256, 257, size - n - 2, size - n - 1, size - n, size - 1, size, size + 1, 65535} {
				if from >= 0 && from <= 65535 {
					wantApply(t, base, append(pair(size, n+1), byte(128+n+1), byte(from>>8), byte(from)))
				}
			}
		}
	}
}

func TestApplyOfManyDeltas(t *testing.T) {
	c := &chance{3}
	told := map[error]int{}
	for range 60000 {
		base := c.text(c.below([]int{1, 10, 301, 2000}[c.below(4)]), 256)
		delta := c.delta(base)
		wantApply(t, base, delta)
		wantSteps(t, delta)
		_, err := Apply(base, delta)
		told[err]++
	}
	for _, err := range []error{nil, api.ErrShort, api.ErrState, api.ErrLarge, api.ErrForm, api.ErrRange, api.ErrLong} {
		if told[err] < 50 {
			t.Errorf("%v was told %d times", err, told[err])
		}
	}
}

// What was made, with a byte changed, is told as the chapter tells it of any bytes.
func TestApplyOfMadeDeltasWithAByteChanged(t *testing.T) {
	c := &chance{4}
	for range 12 {
		base := c.text(c.below(301), 3)
		delta, err := Make(base, c.near(base, 3))
		if err != nil {
			t.Fatal(err)
		}
		for k := range delta {
			for _, b := range []byte{0, 1, 2, 3, 127, 128, 129, 130, 255, delta[k] + 1, delta[k] - 1, delta[k] ^ 128} {
				other := bytes.Clone(delta)
				other[k] = b
				wantApply(t, base, other)
				wantSteps(t, other)
			}
			wantApply(t, base, delta[:k])
			wantSteps(t, delta[:k])
		}
	}
}

func TestStepsOfKnownDeltas(t *testing.T) {
	cases := []struct {
		delta         string
		copies, fresh int
	}{
		{"\x00\x00\x00\x00", 0, 0},
		{"\x00\x03\x00\x01", 0, 0}, // whatever the sizes are
		{"\xff\xff\xff\xff", 0, 0},
		{"\xff\xff\xff\xff\x01x", 0, 1},
		{"\x00\x00\x00\x00\x81\x00\x00", 1, 0},
		{"\x00\x00\x00\x00\xff\xff\xff\x02\x00\x00\x81\x00\x00", 2, 1},
		{"\x00\x00\x00\x00\x01\x80\x01\x00\x01\x81", 0, 3},
		{"\x00\x00\x00\x00\x81\x00\x00\x81\x80\x80\x81\x01\x01\x01\x01", 3, 1},
		{"\x00\x00\x00\x00" + strings.Repeat("\x81\x00\x00\x01x", 500), 500, 500}, // more than an object has bytes
		{"\x00\x00\x00\x00\x7f" + strings.Repeat("\x00", 127), 0, 1},
	}
	for _, c := range cases {
		if copies, fresh, err := Steps([]byte(c.delta)); err != nil || copies != c.copies || fresh != c.fresh {
			t.Errorf("Steps of %q: %d, %d, %v", c.delta, copies, fresh, err)
		}
		wantSteps(t, []byte(c.delta))
	}
}

func TestStepsOfWrongDeltas(t *testing.T) {
	cases := []struct {
		want  error
		delta string
	}{
		{api.ErrShort, ""},
		{api.ErrShort, "\x00\x00\x00"},
		{api.ErrForm, "\x00\x00\x00\x00\x00"},
		{api.ErrForm, "\x00\x00\x00\x00\x80"},
		{api.ErrForm, "\x00\x00\x00\x00\x01x\x81\x00\x00\x80\x00\x00"},
		{api.ErrShort, "\x00\x00\x00\x00\x01"},
		{api.ErrShort, "\x00\x00\x00\x00\x81"},
		{api.ErrShort, "\x00\x00\x00\x00\x81\x00"},
		{api.ErrShort, "\x00\x00\x00\x00\x01x\x81\x00\x00\x02x"},
		{api.ErrShort, "\x00\x00\x00\x00\x7f" + strings.Repeat("\x00", 126)},
	}
	for _, c := range cases {
		if copies, fresh, err := Steps([]byte(c.delta)); !errors.Is(err, c.want) || copies != 0 || fresh != 0 {
			t.Errorf("Steps of %q: %d, %d, %v, not %v", c.delta, copies, fresh, err, c.want)
		}
	}
}

func TestOfNothing(t *testing.T) {
	if got, err := Apply(nil, nil); !errors.Is(err, api.ErrShort) || got != nil {
		t.Errorf("Apply of nothing: %q, %v", got, err)
	}
	if got, err := Make(nil, nil); err != nil || string(got) != "\x00\x00\x00\x00" {
		t.Errorf("Make of nothing: %q, %v", got, err)
	}
	if copies, fresh, err := Steps(nil); !errors.Is(err, api.ErrShort) || copies != 0 || fresh != 0 {
		t.Errorf("Steps of nothing: %d, %d, %v", copies, fresh, err)
	}
}

func TestNothingThatIsGivenIsChangedOrShared(t *testing.T) {
	base := roomy([]byte("the base, from which there are copies"))
	target := roomy([]byte("a target: the base, from which all comes, copies"))
	delta, err := Make(base, target)
	if err != nil {
		t.Fatal(err)
	}
	delta = roomy(delta)
	lists := [][]byte{base, target, delta}
	var before [][]byte
	for _, list := range lists {
		before = append(before, bytes.Clone(list[:cap(list)]))
	}
	for range 2 {
		made, _ := Make(base, target)
		text, _ := Apply(base, delta)
		whole, _ := Apply(base, slices.Concat(pair(len(base), len(base)), []byte{byte(128 + len(base)), 0, 0}))
		alone, _ := Apply(nil, []byte("\x00\x00\x00\x03\x03abc"))
		Sizes(delta)
		Steps(delta)
		if !bytes.Equal(made, delta) || !bytes.Equal(text, target) || !bytes.Equal(whole, base) || string(alone) != "abc" {
			t.Fatalf("%q, %q, %q, %q", made, text, whole, alone)
		}
		for _, answer := range [][]byte{made, text, whole, alone} {
			clear(answer)
			_ = append(answer, "more and more"...)
		}
		for k, list := range lists {
			if !bytes.Equal(list[:cap(list)], before[k]) {
				t.Fatalf("list %d was changed: %q", k, list[:cap(list)])
			}
		}
	}
	kept, _ := Apply(base, delta)
	clear(base)
	clear(delta)
	if !bytes.Equal(kept, target) {
		t.Errorf("writing over what was given changed the answer: %q", kept)
	}
}
