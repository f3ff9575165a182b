package sha

import (
	"bytes"
	"crypto/sha256"
	"encoding/binary"
	"encoding/hex"
	"errors"
	"slices"
	"strings"
	"testing"

	"cartage/api"
)

// stuff is n bytes of all values, the same ones each time.
func stuff(n int) []byte {
	b := make([]byte, n)
	x := uint32(n) + 1
	for i := range b {
		x = x*1664525 + 1013904223
		b[i] = byte(x >> 24)
	}
	return b
}

// digests is n digests that are all different, in no order.
func digests(n int) []api.Oid {
	list := make([]api.Oid, n)
	for i := range list {
		list[i] = sha256.Sum256([]byte{byte(i), byte(i >> 8)})
	}
	return list
}

func TestSumOfKnownMessages(t *testing.T) {
	long := "abcdefghbcdefghicdefghijdefghijkefghijklfghijklmghijklmnhijklmnoijklmnopjklmnopqklmnopqrlmnopqrsmnopqrstnopqrstu"
	cases := []struct{ message, figures string }{
		{"", "e3b0c44298fc1c149afbf4c8996fb92427ae41e4649b934ca495991b7852b855"},
		{"abc", "ba7816bf8f01cfea414140de5dae2223b00361a396177a9cb410ff61f20015ad"},
		{"abcdbcdecdefdefgefghfghighijhijkijkljklmklmnlmnomnopnopq", "248d6a61d20638b8e5c026930c3e6039a33ce45964ff2167f6ecedd419db06c1"},
		{long, "cf5b16a778af8380036ce59e7b0492370b249b11e8f07a51afac45037afee9d1"},
		{strings.Repeat("a", 1000000), "cdc76e5c9914fb9281a1c7e284d73e67f1809a48a497200e046d39ccc7112cd0"},
	}
	for _, c := range cases {
		o := Sum([]byte(c.message))
		if got := hex.EncodeToString(o[:]); got != c.figures {
			t.Errorf("Sum of %d bytes: %s, not %s", len(c.message), got, c.figures)
		}
	}
}

// Lengths around 55, 56, 63 and 64 are those where the padding needs a block more.
func TestSumOfEachLength(t *testing.T) {
	for n := range 300 {
		b := stuff(n)
		if Sum(b) != api.Oid(sha256.Sum256(b)) {
			t.Errorf("Sum of %d bytes is wrong", n)
		}
	}
}

func TestSumOfParts(t *testing.T) {
	b := stuff(200)
	want := api.Oid(sha256.Sum256(b))
	for i := range len(b) + 1 {
		if Sum(b[:i], b[i:]) != want {
			t.Errorf("Sum of parts of %d and %d bytes is wrong", i, len(b)-i)
		}
	}
	for size := 1; size <= len(b); size++ {
		parts := [][]byte{nil, {}}
		for part := range slices.Chunk(b, size) {
			parts = append(parts, part, nil)
		}
		if Sum(parts...) != want {
			t.Errorf("Sum of parts of %d bytes is wrong", size)
		}
	}
}

func TestSumOfNothing(t *testing.T) {
	want := api.Oid(sha256.Sum256(nil))
	for i, got := range []api.Oid{Sum(), Sum(nil), Sum([]byte{}), Sum(nil, nil, []byte{})} {
		if got != want {
			t.Errorf("Sum of nothing, told in way %d, is wrong", i)
		}
	}
}

// A message of 2^29 bytes is the first one whose length in bits needs more than four bytes.
func TestSumOfLongMessage(t *testing.T) {
	if testing.Short() {
		t.Skip("it takes seconds")
	}
	part := stuff(1 << 20)
	parts := make([][]byte, 512)
	other := sha256.New()
	for i := range parts {
		parts[i] = part
		other.Write(part)
	}
	if got := Sum(parts...); !bytes.Equal(got[:], other.Sum(nil)) {
		t.Error("Sum of 2^29 bytes is wrong")
	}
}

func TestSumChangesNothing(t *testing.T) {
	room := stuff(200)
	before := bytes.Clone(room)
	parts := [][]byte{room[:3], room[3:70], room[70:100]}
	first := Sum(parts...)
	if !bytes.Equal(room, before) {
		t.Error("Sum changed what it was given, or the room behind it")
	}
	if len(parts) != 3 || len(parts[0]) != 3 || len(parts[1]) != 67 || len(parts[2]) != 30 {
		t.Error("Sum changed the list of parts")
	}
	if Sum(parts...) != first {
		t.Error("Sum of the same parts is another one")
	}
}

func TestHex(t *testing.T) {
	for _, o := range append(digests(50), api.Oid{}, api.Oid(bytes.Repeat([]byte{255}, 32))) {
		if got := Hex(o); got != hex.EncodeToString(o[:]) {
			t.Errorf("Hex of %x: %s", o, got)
		}
	}
	var o api.Oid
	for i := range 256 {
		o[i%32] = byte(i)
		if i%32 == 31 && Hex(o) != hex.EncodeToString(o[:]) {
			t.Errorf("Hex of %x is wrong", o)
		}
	}
}

func TestUnhex(t *testing.T) {
	for _, o := range append(digests(50), api.Oid{}, api.Oid(bytes.Repeat([]byte{255}, 32))) {
		got, err := Unhex(hex.EncodeToString(o[:]))
		if err != nil || got != o {
			t.Errorf("Unhex of %x: %x, %v", o, got, err)
		}
	}
}

func TestUnhexOfWrongLength(t *testing.T) {
	for n := range 200 {
		if n == 64 {
			continue
		}
		o, err := Unhex(strings.Repeat("1", n))
		if !errors.Is(err, api.ErrForm) || o != (api.Oid{}) {
			t.Errorf("Unhex of %d figures: %x, %v", n, o, err)
		}
	}
}

func TestUnhexOfWrongFigures(t *testing.T) {
	right := strings.Repeat("8", 64)
	for at := range 64 {
		for c := range 256 {
			s := right[:at] + string([]byte{byte(c)}) + right[at+1:]
			isFigure := c >= '0' && c <= '9' || c >= 'a' && c <= 'f'
			o, err := Unhex(s)
			switch {
			case isFigure && (err != nil || Hex(o) != s):
				t.Fatalf("Unhex of %q: %x, %v", s, o, err)
			case !isFigure && (!errors.Is(err, api.ErrForm) || o != (api.Oid{})):
				t.Fatalf("Unhex of %q: %x, %v", s, o, err)
			}
		}
	}
	for _, s := range []string{
		strings.Repeat("A", 64),
		strings.Repeat("é", 32),
		strings.Repeat("1", 63) + "é",
		"0x" + strings.Repeat("1", 62),
		" " + strings.Repeat("1", 64),
		strings.Repeat("1", 64) + "\n",
	} {
		if o, err := Unhex(s); !errors.Is(err, api.ErrForm) || o != (api.Oid{}) {
			t.Errorf("Unhex of %q: %x, %v", s, o, err)
		}
	}
}

func TestLess(t *testing.T) {
	for at := range 32 {
		var low, high api.Oid
		low[at], high[at] = 127, 128 // byte by byte, so without a sign
		for i := at + 1; i < 32; i++ {
			low[i] = 255
		}
		if !Less(low, high) || Less(high, low) {
			t.Errorf("Less is wrong where byte %d is the first one to differ", at)
		}
	}
	for _, o := range append(digests(5), api.Oid{}) {
		if Less(o, o) {
			t.Errorf("%x is ahead of itself", o)
		}
	}
}

func TestSort(t *testing.T) {
	list := digests(300)
	list = append(list, list[:100]...)
	list = append(list, list[0], api.Oid{}, api.Oid{})
	before := slices.Clone(list)
	got := Sort(list)
	if !slices.Equal(list, before) {
		t.Error("Sort changed what it was given")
	}
	if len(got) != 301 {
		t.Errorf("%d digests, not 301", len(got))
	}
	for i := 1; i < len(got); i++ {
		if bytes.Compare(got[i-1][:], got[i][:]) >= 0 {
			t.Errorf("the digest at %d isn't above the one ahead", i)
		}
	}
	for _, o := range list {
		if !slices.Contains(got, o) {
			t.Errorf("%x is missing", o)
		}
	}
	if !slices.Equal(Sort(got), got) {
		t.Error("what is sorted is sorted otherwise")
	}
}

func TestSortOfFew(t *testing.T) {
	if len(Sort(nil)) != 0 || len(Sort([]api.Oid{})) != 0 {
		t.Error("Sort of none has some")
	}
	one := digests(1)
	if !slices.Equal(Sort(one), one) {
		t.Error("Sort of one is another one")
	}
	if !slices.Equal(Sort([]api.Oid{one[0], one[0], one[0]}), one) {
		t.Error("one that stands there thrice isn't told once")
	}
}

func TestSortSharesNothing(t *testing.T) {
	room := digests(10)
	before := slices.Clone(room)
	for n := range 5 {
		got := Sort(room[:n])
		for i := range got {
			got[i] = api.Oid{1}
		}
		_ = append(got, api.Oid{2}, api.Oid{3}, api.Oid{4})
		if !slices.Equal(room, before) {
			t.Fatalf("writing over Sort's answer of %d changed what it was given", n)
		}
	}
}

func TestShort(t *testing.T) {
	for _, o := range append(digests(50), api.Oid{}, api.Oid(bytes.Repeat([]byte{255}, 32))) {
		if Short(o) != binary.BigEndian.Uint64(o[:8]) {
			t.Errorf("Short of %x: %x", o, Short(o))
		}
	}
	if got := Short(api.Oid{1, 2, 3, 4, 5, 6, 7, 8, 9}); got != 0x0102030405060708 {
		t.Errorf("Short of bytes 1 to 9: %x", got)
	}
	if got := Short(api.Oid{128}); got != 1<<63 {
		t.Errorf("Short of the byte 128 and noughts: %x", got)
	}
}
