package pack

import (
	"bytes"
	"errors"
	"slices"
	"strings"
	"testing"

	"cartage/api"
	"cartage/object"
)

func sameLists(a, b [][]byte) bool { return slices.EqualFunc(a, b, bytes.Equal) }

// wantRead wants of Decode and Depths what the plain one says.
func wantRead(t *testing.T, b []byte, known [][]byte) {
	t.Helper()
	texts, depths, fault := plainRead(b, known)
	got, err := Decode(b, known)
	if !errors.Is(err, fault) || (fault != nil) != (err != nil) || !sameLists(got, texts) || err != nil && got != nil {
		t.Fatalf("Decode of %q: %q, %v, not %q, %v", b, got, err, texts, fault)
	}
	deep, err := Depths(b, known)
	if !errors.Is(err, fault) || (fault != nil) != (err != nil) || !slices.Equal(deep, depths) || err != nil && deep != nil {
		t.Fatalf("Depths of %q: %v, %v, not %v, %v", b, deep, err, depths, fault)
	}
}

// wantFault wants an error of Decode, Depths and the plain one.
func wantFault(t *testing.T, what string, want error, b []byte, known ...string) {
	t.Helper()
	if got, err := Decode(b, lists(known...)); !errors.Is(err, want) || got != nil {
		t.Errorf("%s: Decode: %q, %v, not %v", what, got, err, want)
	}
	if got, err := Depths(b, lists(known...)); !errors.Is(err, want) || got != nil {
		t.Errorf("%s: Depths: %v, %v, not %v", what, got, err, want)
	}
	if _, _, err := plainRead(b, lists(known...)); !errors.Is(err, want) {
		t.Errorf("%s: the plain one: %v, not %v", what, err, want)
	}
}

// wantEncode wants of Encode what the plain one says, and that it is decoded as it was, whatever is known.
func wantEncode(t *testing.T, objects [][]byte) {
	t.Helper()
	want, fault := plainEncode(objects)
	b, err := Encode(objects)
	if !errors.Is(err, fault) || (fault != nil) != (err != nil) || !bytes.Equal(b, want) || err != nil && b != nil {
		t.Fatalf("Encode of %q: %q, %v, not %q, %v", objects, b, err, want, fault)
	}
	if err != nil {
		return
	}
	for _, known := range [][][]byte{nil, objects, lists("", "b", "no object")} {
		if got, err := Decode(b, known); err != nil || !sameLists(got, objects) {
			t.Fatalf("Decode of %q: %q, %v, not %q", b, got, err, objects)
		}
		wantRead(t, b, known)
	}
	if n, err := Count(b); err != nil || n != len(objects) {
		t.Fatalf("Count of %q: %d, %v", b, n, err)
	}
}

// chain is a pack's items: a blob by itself, and n more, each by a delta from the one ahead; and the blobs.
func chain(n int) (items [][]byte, texts []string) {
	text := "b" + strings.Repeat("a long text ", 8)
	texts = []string{text}
	items = [][]byte{told(text)}
	for k := range n {
		next := text + string([]byte{byte('A' + k)})
		items = append(items, made(text, next))
		texts = append(texts, next)
		text = next
	}
	return items, texts
}

func TestExample(t *testing.T) {
	for _, none := range [][][]byte{nil, {}} {
		b, err := Encode(none)
		if err != nil || string(b) != "\x00" {
			t.Fatalf("Encode of no objects: %q, %v", b, err)
		}
		got, err := Decode(b, none)
		if err != nil || len(got) != 0 {
			t.Errorf("Decode of it: %q, %v", got, err)
		}
		if n, err := Count(b); err != nil || n != 0 {
			t.Errorf("Count of it: %d, %v", n, err)
		}
		if depths, err := Depths(b, none); err != nil || len(depths) != 0 {
			t.Errorf("Depths of it: %v, %v", depths, err)
		}
	}
}

func TestCount(t *testing.T) {
	for _, none := range [][]byte{nil, {}} {
		if n, err := Count(none); !errors.Is(err, api.ErrShort) || n != 0 {
			t.Errorf("Count of no bytes: %d, %v", n, err)
		}
	}
	for first := range 256 { // by that byte alone, whatever stands behind it
		for _, rest := range []string{"", "\x00", "\x05", "\x00\x00\x01b", strings.Repeat("x", 1999), strings.Repeat("x", 2000), strings.Repeat("\x00", 70000)} {
			if n, err := Count([]byte(string([]byte{byte(first)}) + rest)); err != nil || n != first {
				t.Errorf("Count of %d and %d bytes: %d, %v", first, len(rest), n, err)
			}
		}
	}
}

func TestEncodeOfKnownObjects(t *testing.T) {
	long := "b" + strings.Repeat("0123456789", 7) // 71 bytes
	next := long + "X"
	id := string(plainId([]byte(long)))
	cases := []struct {
		objects []string
		want    string
	}{
		{[]string{"bx"}, "\x01\x00\x00\x02bx"},
		{[]string{"b"}, "\x01\x00\x00\x01b"},
		{[]string{"t"}, "\x01\x00\x00\x01t"},
		{[]string{"bx", "by"}, "\x02\x00\x00\x02bx\x00\x00\x02by"},
		{[]string{"by", "bx"}, "\x02\x00\x00\x02by\x00\x00\x02bx"}, // in order, whichever it is
		{[]string{"b" + strings.Repeat("x", 299)}, "\x01\x00\x01\x2cb" + strings.Repeat("x", 299)},
		{[]string{long, next}, "\x02\x00\x00\x47" + long + "\x01" + id + "\x00\x09\x00\x47\x00\x48\xc7\x00\x00\x01X"},
		{[]string{long, "bx", next}, "\x03\x00\x00\x47" + long + "\x00\x00\x02bx\x00\x00\x48" + next}, // from the one ahead alone
	}
	for _, c := range cases {
		if b, err := Encode(lists(c.objects...)); err != nil || string(b) != c.want {
			t.Errorf("Encode of %q: %q, %v, not %q", c.objects, b, err, c.want)
		}
		wantEncode(t, lists(c.objects...))
	}
}

// A delta that copies all but the base's end has seven bytes.
func TestEncodeOfEachSaving(t *testing.T) {
	c := &chance{1}
	for n := 1; n <= 120; n++ {
		text := c.blob(n)
		base := append(bytes.Clone(text), '!')
		b, err := Encode([][]byte{base, text})
		if err != nil {
			t.Fatal(err)
		}
		depths, err := Depths(b, nil)
		want := []int{0, 0}
		if n-7 >= 40 {
			want[1] = 1
		}
		if err != nil || !slices.Equal(depths, want) {
			t.Errorf("of %d bytes: %v, %v, not %v", n, depths, err, want)
		}
		size := 1 + 3 + len(base) + 3 + n
		if want[1] == 1 {
			size = 1 + 3 + len(base) + 1 + 32 + 2 + 7
		}
		if len(b) != size {
			t.Errorf("of %d bytes: a pack of %d bytes, not %d", n, len(b), size)
		}
		wantEncode(t, [][]byte{base, text})
	}
}

func TestEncodeOfChains(t *testing.T) {
	var objects [][]byte
	var want []int
	text := "b" + strings.Repeat("0123456789", 5)
	for n := range 30 {
		objects = append(objects, []byte(text+strings.Repeat("!", n)))
		want = append(want, n%6) // the seventh would be 6 deep: it is told by itself
		b, err := Encode(objects)
		if err != nil {
			t.Fatalf("of %d objects: %v", n+1, err)
		}
		if depths, err := Depths(b, nil); err != nil || !slices.Equal(depths, want) {
			t.Fatalf("of %d objects: %v, %v, not %v", n+1, depths, err, want)
		}
		wantEncode(t, objects)
	}
}

// What is told by itself is 0 deep, wherever it stands.
func TestEncodeOfBrokenChains(t *testing.T) {
	text := "b" + strings.Repeat("0123456789", 5)
	for at := 1; at < 8; at++ {
		var objects [][]byte
		var want []int
		depth := -1
		for n := range 10 {
			if n == at {
				objects, want = append(objects, []byte("bx")), append(want, 0)
				depth = -1
			}
			objects = append(objects, []byte(text+strings.Repeat("!", n)))
			if depth++; depth > 5 {
				depth = 0
			}
			want = append(want, depth)
		}
		b, err := Encode(objects)
		if err != nil {
			t.Fatal(err)
		}
		if depths, err := Depths(b, nil); err != nil || !slices.Equal(depths, want) {
			t.Errorf("broken at %d: %v, %v, not %v", at, depths, err, want)
		}
		wantEncode(t, objects)
	}
}

// small is n objects of two bytes and of three.
func small(n int) [][]byte {
	var list [][]byte
	for k := range n {
		list = append(list, append([]byte{'b', byte(k)}, strings.Repeat("x", k%2)...))
	}
	return list
}

func TestEncodeOfTooManyObjects(t *testing.T) {
	for n := range 65 {
		wantEncode(t, small(n))
		if b, err := Encode(small(n)); err != nil || int(b[0]) != n {
			t.Errorf("Encode of %d objects: %q, %v", n, b, err)
		}
	}
	for _, n := range []int{65, 66, 128, 255} {
		if b, err := Encode(small(n)); !errors.Is(err, api.ErrFull) || b != nil {
			t.Errorf("Encode of %d objects: %q, %v", n, b, err)
		}
	}
	for _, n := range []int{256, 257, 320, 65536} { // no number goes round
		if b, err := Encode(make([][]byte, n)); !errors.Is(err, api.ErrFull) || b != nil {
			t.Errorf("Encode of %d objects: %q, %v", n, b, err)
		}
	}
}

func TestEncodeOfTooManyBytes(t *testing.T) {
	c := &chance{2}
	var objects [][]byte
	for range 6 {
		objects = append(objects, c.blob(300)) // 303 bytes each
	}
	for n := 1; n <= 300; n++ {
		list := append(slices.Clip(objects), c.blob(n))
		b, err := Encode(list)
		size := 1 + 6*303 + 3 + n
		if size <= 2000 && (err != nil || len(b) != size) {
			t.Errorf("Encode to %d bytes: %d bytes, %v", size, len(b), err)
		}
		if size > 2000 && (!errors.Is(err, api.ErrLarge) || b != nil) {
			t.Errorf("Encode to %d bytes: %d bytes, %v", size, len(b), err)
		}
		wantEncode(t, list)
	}
	var near [][]byte // many bytes of objects are few of a pack
	for k := range 12 {
		near = append(near, append(bytes.Clone(objects[0][:290]), byte(k)))
	}
	if b, err := Encode(near); err != nil || len(b) > 1100 {
		t.Errorf("Encode of objects that are near one another: %d bytes, %v", len(b), err)
	}
	wantEncode(t, near)
}

// Each error as the chapter names it, object by object, ahead of those that it names later.
func TestEncodeTellsErrorsInTheirOrder(t *testing.T) {
	c := &chance{3}
	var full [][]byte
	for range 64 {
		full = append(full, c.blob(300))
	}
	wrong := "t\x01/" + strings.Repeat("1", 32)
	with := func(list [][]byte, texts ...string) [][]byte { return append(slices.Clip(list), lists(texts...)...) }
	cases := []struct {
		what    string
		want    error
		objects [][]byte
	}{
		{"65 objects of too many bytes", api.ErrFull, with(full, "bx")},
		{"65 objects, one wrong", api.ErrFull, with(full, "z")},
		{"65 objects, one twice", api.ErrFull, with(full, string(full[0]))},
		{"65 objects of no bytes", api.ErrFull, make([][]byte, 65)},

		{"no bytes", api.ErrShort, [][]byte{nil}},
		{"no bytes, but a list", api.ErrShort, lists("")},
		{"no bytes last", api.ErrShort, lists("bx", "")},
		{"no bytes twice", api.ErrShort, lists("", "")},
		{"a tag that ends too soon", api.ErrShort, lists("bx", "g123")},
		{"another kind", api.ErrKind, lists("z")},
		{"another kind last", api.ErrKind, lists("bx", "by", "z")},
		{"a wrong tree", api.ErrForm, lists("bx", wrong)},
		{"301 bytes", api.ErrLarge, [][]byte{c.blob(301)}},
		{"301 bytes behind a near one", api.ErrLarge, lists("b"+strings.Repeat("x", 299), "b"+strings.Repeat("x", 300))},
		{"301 bytes of no object", api.ErrLarge, lists(strings.Repeat("z", 301))},
		{"2000 bytes", api.ErrLarge, [][]byte{c.blob(2000)}},
		{"70000 bytes", api.ErrLarge, [][]byte{c.blob(70000)}},

		{"one twice", api.ErrDup, lists("bx", "bx")},
		{"the first one last", api.ErrDup, lists("bx", "by", "bz", "bx")},
		{"one twice, that would be a delta", api.ErrDup, lists("b"+strings.Repeat("x", 90), "b"+strings.Repeat("x", 90))},

		{"one twice ahead of a wrong one", api.ErrDup, lists("bx", "bx", "z")},
		{"a wrong one ahead of one twice", api.ErrKind, lists("bx", "z", "bx")},
		{"a wrong one twice", api.ErrKind, lists("z", "z")},
		{"a wrong one ahead of no bytes", api.ErrKind, lists("z", "")},
		{"no bytes ahead of a wrong one", api.ErrShort, lists("", "z")},

		{"too many bytes", api.ErrLarge, full},
		{"too many bytes of seven objects", api.ErrLarge, full[:7]},
		{"too many bytes, and a wrong one", api.ErrKind, with(full[:20], "z")},
		{"too many bytes, and no bytes", api.ErrShort, with(full[:20], "")},
		{"too many bytes, and one twice", api.ErrDup, with(full[:20], string(full[3]))},
	}
	for _, c := range cases {
		if b, err := Encode(c.objects); !errors.Is(err, c.want) || b != nil {
			t.Errorf("%s: %d bytes, %v, not %v", c.what, len(b), err, c.want)
		}
		wantEncode(t, c.objects)
	}
}

func TestEncodeOfManyLists(t *testing.T) {
	c := &chance{4}
	told := map[error]int{}
	deep := map[int]int{}
	for range 3000 {
		objects := c.apart(c.below([]int{3, 9, 20, 60}[c.below(4)]))
		if len(objects) > 0 && c.below(20) == 0 {
			objects = append(objects, objects[c.below(len(objects))])
		}
		if len(objects) > 0 && c.below(20) == 0 {
			objects[c.below(len(objects))] = c.text(c.below(40))
		}
		wantEncode(t, objects)
		b, err := Encode(objects)
		told[err]++
		if err == nil {
			depths, _ := Depths(b, nil)
			for _, depth := range depths {
				deep[depth]++
			}
		}
	}
	for _, err := range []error{nil, api.ErrDup, api.ErrKind, api.ErrLarge} {
		if told[err] < 50 {
			t.Errorf("%v was told %d times", err, told[err])
		}
	}
	for depth := range 6 {
		if deep[depth] < 50 {
			t.Errorf("%d items were %d deep", deep[depth], depth)
		}
	}
	if len(deep) != 6 {
		t.Errorf("depths %v", deep)
	}
}

func TestDecodeOfKnownPacks(t *testing.T) {
	base := "b" + strings.Repeat("0123456789", 5)
	tag := "g" + strings.Repeat("1", 32) + "why"
	cases := []struct {
		what   string
		b      []byte
		known  []string
		want   []string
		depths []int
	}{
		{"none, though some are known", packed(), []string{"bx", base}, nil, nil},
		{"one by itself", packed(told("bx")), nil, []string{"bx"}, []int{0}},
		{"of each kind", packed(told("b"), told("t"), told(tag), told("c"+strings.Repeat("2", 32)+"\x00")), nil,
			[]string{"b", "t", tag, "c" + strings.Repeat("2", 32) + "\x00"}, []int{0, 0, 0, 0}},
		{"one that is known", packed(told("bx")), []string{"bx"}, []string{"bx"}, []int{0}},
		{"a delta that saves nothing", packed(told("bx"), made("bx", "by")), nil, []string{"bx", "by"}, []int{0, 1}},
		{"a delta to another kind", packed(told(base), made(base, tag)), nil, []string{base, tag}, []int{0, 1}},
		{"not from the one ahead", packed(told(base), told("bx"), made(base, base+"!")), nil, []string{base, "bx", base + "!"}, []int{0, 0, 1}},
		{"several from one", packed(told(base), made(base, base+"!"), made(base, base+"?")), nil, []string{base, base + "!", base + "?"}, []int{0, 1, 1}},
		{"from a known one", packed(made(base, base+"!")), []string{base}, []string{base + "!"}, []int{1}},
		{"from a known one behind others", packed(made(base, base+"!")), []string{"bx", "by", base, "bz"}, []string{base + "!"}, []int{1}},
		{"from one that is known twice", packed(made(base, base+"!")), []string{base, base}, []string{base + "!"}, []int{1}},
		{"from a known one of one byte", packed(made("b", "bx")), []string{"b"}, []string{"bx"}, []int{1}},
		{"to a known one", packed(told("bx"), made("bx", base)), []string{base}, []string{"bx", base}, []int{0, 1}},
		{"to a known one from itself", packed(made(base, base)), []string{base}, []string{base}, []int{1}},
		{"from one known and ahead, by itself", packed(told(base), made(base, base+"!")), []string{base}, []string{base, base + "!"}, []int{0, 1}},
		{"from one known and ahead, by a delta", packed(told("bx"), made("bx", base), made(base, base+"!")), []string{base},
			[]string{"bx", base, base + "!"}, []int{0, 1, 2}}, // the one ahead is the base, so it is 2 deep
		{"from one known, and behind", packed(told("bx"), made(base, base+"!"), made("bx", base)), []string{base},
			[]string{"bx", base + "!", base}, []int{0, 1, 1}},
		{"300 bytes", packed(told("b" + strings.Repeat("x", 299))), nil, []string{"b" + strings.Repeat("x", 299)}, []int{0}},
	}
	for _, c := range cases {
		if got, err := Decode(c.b, lists(c.known...)); err != nil || !sameLists(got, lists(c.want...)) {
			t.Errorf("%s: %q, %v, not %q", c.what, got, err, c.want)
		}
		if depths, err := Depths(c.b, lists(c.known...)); err != nil || !slices.Equal(depths, c.depths) {
			t.Errorf("%s: %v, %v, not %v", c.what, depths, err, c.depths)
		}
		wantRead(t, c.b, lists(c.known...))
	}
}

func TestDecodeOfChains(t *testing.T) {
	items, texts := chain(9)
	for n := range 6 { // all in the pack: the first one is 0 deep
		var want []int
		for k := range n + 1 {
			want = append(want, k)
		}
		b := packed(items[:n+1]...)
		if got, err := Decode(b, nil); err != nil || !sameLists(got, lists(texts[:n+1]...)) {
			t.Errorf("a chain of %d: %q, %v", n, got, err)
		}
		if depths, err := Depths(b, nil); err != nil || !slices.Equal(depths, want) {
			t.Errorf("a chain of %d: %v, %v", n, depths, err)
		}
		b = packed(items[1 : n+1]...) // the first one is known
		if got, err := Decode(b, lists(texts[0])); err != nil || !sameLists(got, lists(texts[1:n+1]...)) {
			t.Errorf("a chain of %d from a known one: %q, %v", n, got, err)
		}
		if depths, err := Depths(b, lists(texts[0])); err != nil || !slices.Equal(depths, want[1:]) {
			t.Errorf("a chain of %d from a known one: %v, %v", n, depths, err)
		}
	}
	for n := 6; n <= 9; n++ {
		wantFault(t, "a chain that is too long", api.ErrDepth, packed(items[:n+1]...))
		wantFault(t, "a chain that is too long from a known one", api.ErrDepth, packed(items[1:n+1]...), texts[0])
		wantFault(t, "a chain that is too long, all known", api.ErrDepth, packed(items[:n+1]...), texts...)
	}
	// what is known is 0 deep, however it was told once
	if depths, err := Depths(packed(items[6], items[7], items[8], items[9]), lists(texts...)); err != nil || !slices.Equal(depths, []int{1, 2, 3, 4}) {
		t.Errorf("the end of a chain: %v, %v", depths, err)
	}
	// two from the one that is 4 deep, and one that is too deep by either
	fork := append(slices.Clip(items[:6]), made(texts[4], "bfork"), made("bfork", "bleaf"))
	wantFault(t, "a fork that is too deep", api.ErrDepth, packed(fork...))
	if depths, err := Depths(packed(fork[:7]...), nil); err != nil || !slices.Equal(depths, []int{0, 1, 2, 3, 4, 5, 5}) {
		t.Errorf("a fork: %v, %v", depths, err)
	}
}

// Each error as the chapter names it, item by item, ahead of those that it names later.
func TestDecodeTellsErrorsInTheirOrder(t *testing.T) {
	join := func(parts ...string) []byte { return []byte(strings.Join(parts, "")) }
	x, id := "bx", string(plainId([]byte("bx")))
	none := strings.Repeat("n", 32)
	items, texts := chain(5)
	deep := string(plainId([]byte(texts[5])))
	far := append([]byte{7}, slices.Concat(items...)...) // a pack of 7, of which 6 are there
	one := "\x00\x00\x02bx"
	cases := []struct {
		what  string
		want  error
		b     []byte
		known []string
	}{
		{"2001 bytes of no pack", api.ErrLarge, bytes.Repeat([]byte{255}, 2001), nil},
		{"2001 noughts", api.ErrLarge, make([]byte, 2001), nil},
		{"2000 noughts", api.ErrLong, make([]byte, 2000), nil},
		{"2000 bytes of too many items", api.ErrFull, bytes.Repeat([]byte{255}, 2000), nil},
		{"many bytes", api.ErrLarge, make([]byte, 70000), nil},

		{"no bytes", api.ErrShort, nil, nil},
		{"65 items, none there", api.ErrFull, join("A"), nil},
		{"65 items, the first one wrong", api.ErrFull, join("A\x07"), nil},
		{"255 items", api.ErrFull, join("\xff", one), nil},
		{"64 items, none there", api.ErrShort, join("@"), nil},
		{"64 items, one there", api.ErrShort, join("@", one), nil},

		{"an item that isn't there", api.ErrShort, join("\x01"), nil},
		{"a second item that isn't there", api.ErrShort, join("\x02", one), nil},
		{"no length", api.ErrShort, join("\x01\x00"), nil},
		{"half a length", api.ErrShort, join("\x01\x00\x00"), nil},
		{"no bytes of two", api.ErrShort, join("\x01\x00\x00\x02"), nil},
		{"one byte of two", api.ErrShort, join("\x01\x00\x00\x02b"), nil},
		{"one byte of 258", api.ErrShort, join("\x01\x00\x01\x02b"), nil},
		{"a wrong byte of two", api.ErrShort, join("\x01\x00\x00\x02z"), nil},
		{"no id", api.ErrShort, join("\x01\x01"), nil},
		{"31 bytes of an id", api.ErrShort, join("\x01\x01", none[1:]), nil},
		{"an id alone that isn't there", api.ErrShort, join("\x01\x01", none), nil}, // ahead of ErrMissing
		{"an id and half a length", api.ErrShort, join("\x01\x01", none, "\x00"), nil},
		{"an id and no bytes of one", api.ErrShort, join("\x01\x01", none, "\x00\x01"), nil},
		{"a delta too short, from one too deep", api.ErrShort, join(string(far), "\x01", deep, "\x00\x01"), nil}, // ahead of ErrDepth

		{"a byte 2", api.ErrKind, join("\x01\x02"), nil},
		{"a byte 2 and an item", api.ErrKind, join("\x01\x02\x00\x02bx"), nil},
		{"a byte 255", api.ErrKind, join("\x01\xff"), nil},
		{"a byte b", api.ErrKind, join("\x01bx"), nil},
		{"a byte 2 behind an item", api.ErrKind, join("\x02", one, "\x02"), nil},
		{"a byte 2 behind the last item", api.ErrLong, join("\x01", one, "\x02"), nil},

		{"no such base", api.ErrMissing, join("\x01\x01", none, "\x00\x00"), nil},
		{"no such base, others known", api.ErrMissing, join("\x01\x01", none, "\x00\x00"), []string{"b", "bx", none}},
		{"no such base, a wrong delta", api.ErrMissing, join("\x01\x01", none, "\x00\x01x"), nil}, // ahead of layer 7's
		{"a base behind", api.ErrMissing, packed(made(x, "by"), told(x)), nil},
		{"a base that is the item itself", api.ErrMissing, packed(made(x, x)), nil},
		{"a base of noughts", api.ErrMissing, join("\x01\x01", strings.Repeat("\x00", 32), "\x00\x00"), []string{"bx"}},
		{"an id but for its last byte", api.ErrMissing, join("\x01\x01", id[:31], string([]byte{id[31] ^ 1}), "\x00\x00"), []string{x}},
		{"an id but for its first byte", api.ErrMissing, join("\x01\x01", string([]byte{id[0] ^ 128}), id[1:], "\x00\x00"), []string{x}},

		{"one too deep", api.ErrDepth, join(string(far), string(made(texts[5], "bx"))), nil},
		{"one too deep, that is known too", api.ErrDepth, join(string(far), string(made(texts[5], "bx"))), texts},
		{"one too deep, a wrong delta", api.ErrDepth, join(string(far), "\x01", deep, "\x00\x01x"), nil}, // ahead of layer 7's

		{"a delta of no bytes", api.ErrShort, join("\x01\x01", id, "\x00\x00"), []string{x}},
		{"a delta of three bytes", api.ErrShort, join("\x01\x01", id, "\x00\x03\x00\x02\x00"), []string{x}},
		{"a delta of another length", api.ErrState, join("\x01\x01", id, "\x00\x04\x00\x03\x00\x00"), []string{x}},
		{"a delta to 301 bytes", api.ErrLarge, join("\x01\x01", id, "\x00\x04\x00\x02\x01\x2d"), []string{x}},
		{"a step of no bytes", api.ErrForm, join("\x01\x01", id, "\x00\x05\x00\x02\x00\x02\x00"), []string{x}},
		{"a step that ends too soon", api.ErrShort, join("\x01\x01", id, "\x00\x06\x00\x02\x00\x02\x02b"), []string{x}},
		{"a copy beyond the base", api.ErrRange, join("\x01\x01", id, "\x00\x07\x00\x02\x00\x02\x82\x00\x01"), []string{x}},
		{"more than told", api.ErrLong, join("\x01\x01", id, "\x00\x07\x00\x02\x00\x01\x82\x00\x00"), []string{x}},
		{"less than told", api.ErrShort, join("\x01\x01", id, "\x00\x07\x00\x02\x00\x03\x82\x00\x00"), []string{x}},
		{"a delta that makes no bytes", api.ErrShort, join("\x01\x01", id, "\x00\x04\x00\x02\x00\x00"), []string{x}},
		{"a delta that makes another kind", api.ErrKind, join("\x01\x01", id, "\x00\x06\x00\x02\x00\x01\x01z"), []string{x}},
		{"a delta that makes a wrong object", api.ErrForm, packed(made(x, "t\x01/"+none)), []string{x}},

		{"no bytes by themselves", api.ErrShort, packed(told("")), nil},
		{"another letter", api.ErrKind, packed(told("z")), nil},
		{"another letter behind an object", api.ErrKind, packed(told("bx"), told("z")), nil},
		{"a tag that ends too soon", api.ErrShort, packed(told("g" + none[1:])), nil},
		{"a wrong tree", api.ErrForm, packed(told("t\x01/" + none)), nil},
		{"301 bytes by themselves", api.ErrLarge, packed(told("b" + strings.Repeat("x", 300))), nil},
		{"301 bytes of no object", api.ErrLarge, packed(told(strings.Repeat("z", 301))), nil},

		{"one twice", api.ErrDup, packed(told("bx"), told("bx")), nil},
		{"one twice, with another one between", api.ErrDup, packed(told("bx"), told("by"), told("bx")), nil},
		{"one by itself and by a delta", api.ErrDup, packed(told("bx"), made("bx", "bx")), nil},
		{"one by a delta and by itself", api.ErrDup, packed(made("bx", "by"), told("by")), []string{"bx"}},
		{"one by two deltas", api.ErrDup, packed(made("bx", "by"), made("b", "by")), []string{"bx", "b"}},
		{"a wrong one twice", api.ErrKind, packed(told("z"), told("z")), nil},
		{"one twice, and what is left", api.ErrDup, join(string(packed(told("bx"), told("bx"))), "x"), nil},
		{"one twice, and a wrong item", api.ErrDup, join("\x03", one, one, "\x02"), nil},

		{"a byte behind no items", api.ErrLong, join("\x00\x00"), nil},
		{"a byte behind an item", api.ErrLong, join("\x01", one, "x"), nil},
		{"an item behind the last one", api.ErrLong, join("\x01", one, "\x00\x00\x02by"), nil},
	}
	for _, c := range cases {
		wantFault(t, c.what, c.want, c.b, c.known...)
	}
}

func TestDecodeOfEachCount(t *testing.T) {
	objects := small(64)
	var all []byte
	for _, text := range objects {
		all = append(all, told(string(text))...)
	}
	for first := range 256 {
		wantRead(t, append([]byte{byte(first)}, all...), nil)
	}
	if got, err := Decode(append([]byte{64}, all...), nil); err != nil || !sameLists(got, objects) {
		t.Errorf("Decode of 64 items: %d objects, %v", len(got), err)
	}
	wantFault(t, "65 items", api.ErrFull, append([]byte{65}, append(all, told("bmore")...)...))
}

func TestDecodeOfEachSize(t *testing.T) {
	c := &chance{5}
	var front []byte
	for range 6 {
		front = append(front, told(string(c.blob(300)))...)
	}
	for n := 1; n <= 303; n++ {
		b := slices.Concat([]byte{7}, front, told(string(c.blob(n))))
		_, err := Decode(b, nil)
		if (len(b) > 2000 || n > 300) != errors.Is(err, api.ErrLarge) || len(b) <= 2000 && err != nil {
			t.Errorf("Decode of %d bytes: %v", len(b), err)
		}
		wantRead(t, b, nil)
	}
}

// A known list is any bytes; a base of it is as long as its delta tells.
func TestDecodeFromAnyKnownBytes(t *testing.T) {
	c := &chance{6}
	for _, n := range []int{0, 1, 2, 255, 256, 300, 301, 1000, 65535, 65536, 65538, 70000} {
		base := c.text(n)
		d := []byte{byte(n / 256), byte(n % 256), 0, 2, 2, 'b', 'x'}
		b := packed(toldBy(base, d))
		known := [][]byte{[]byte("b"), base, nil}
		wantRead(t, b, known)
		got, err := Decode(b, known)
		if n <= 65535 && (err != nil || !sameLists(got, lists("bx"))) {
			t.Errorf("from a base of %d bytes: %q, %v", n, got, err)
		}
		if n > 65535 && !errors.Is(err, api.ErrState) {
			t.Errorf("from a base of %d bytes: %q, %v", n, got, err)
		}
	}
}

// All packs of few bytes.
func TestDecodeOfAllShortPacks(t *testing.T) {
	tails := [][]byte{nil}
	for k := 0; len(tails[k]) < 7; k++ { // each tail but the longest ones, and each byte behind it
		for _, b := range []byte{0, 1, 2, 'b', 't'} {
			tails = append(tails, append(slices.Clip(tails[k]), b))
		}
	}
	for _, tail := range tails {
		wantRead(t, tail, lists("b"))
	}
	id := plainId([]byte("b"))
	for _, tail := range tails[:4000] {
		wantRead(t, slices.Concat([]byte{1, 1}, id, []byte{0}, tail), lists("b"))
		wantRead(t, slices.Concat([]byte{2, 0, 0, 1, 'b', 1}, id, []byte{0, 5, 0, 1, 0}, tail), nil)
	}
}

func TestDecodeOfManyPacks(t *testing.T) {
	c := &chance{7}
	told := map[error]int{}
	deep := map[int]int{}
	for range 20000 {
		known := c.apart(c.below(4))
		b := c.pack(known)
		wantRead(t, b, known)
		depths, err := Depths(b, known)
		told[err]++
		for _, depth := range depths {
			deep[depth]++
		}
	}
	for _, err := range []error{nil, api.ErrShort, api.ErrKind, api.ErrMissing, api.ErrDepth, api.ErrDup, api.ErrLong, api.ErrState} {
		if told[err] < 20 {
			t.Errorf("%v was told %d times", err, told[err])
		}
	}
	for depth := range 6 {
		if deep[depth] < 50 {
			t.Errorf("%d items were %d deep", deep[depth], depth)
		}
	}
	if len(deep) != 6 {
		t.Errorf("depths %v", deep)
	}
}

// What was encoded, with a byte changed, or cut, is told as the chapter tells it of any bytes.
func TestDecodeOfChangedPacks(t *testing.T) {
	c := &chance{8}
	for range 12 {
		objects := c.apart(2 + c.below(6))
		b, err := Encode(objects)
		if err != nil {
			continue
		}
		for k := range b {
			for _, x := range []byte{0, 1, 2, 3, 'b', 127, 128, 255, b[k] + 1, b[k] - 1, b[k] ^ 128} {
				other := bytes.Clone(b)
				other[k] = x
				wantRead(t, other, objects[:1])
			}
			wantRead(t, b[:k], nil)
			wantRead(t, slices.Delete(bytes.Clone(b), k, k+1), nil)
			wantRead(t, slices.Insert(bytes.Clone(b), k, b[k]), objects)
		}
	}
}

func TestTheSameEachTime(t *testing.T) {
	c := &chance{9}
	for range 50 {
		known := c.apart(40)
		b := c.pack(known)
		objects := c.apart(10)
		texts, err := Decode(b, known)
		depths, _ := Depths(b, known)
		coded, fault := Encode(objects)
		slices.Reverse(known) // in whichever order they are known
		for range 5 {
			again, other := Decode(b, known)
			deep, _ := Depths(b, known)
			if !sameLists(again, texts) || !slices.Equal(deep, depths) || (err == nil) != (other == nil) || !errors.Is(other, err) {
				t.Fatalf("Decode of %q: %q, %v, and then %q, %v", b, texts, err, again, other)
			}
			if again, other := Encode(objects); !bytes.Equal(again, coded) || (fault == nil) != (other == nil) || !errors.Is(other, fault) {
				t.Fatalf("Encode of %q: %q, %v, and then %q, %v", objects, coded, fault, again, other)
			}
		}
	}
}

func TestNothingThatIsGivenIsChangedOrShared(t *testing.T) {
	base := "b" + strings.Repeat("0123456789", 5)
	tree, err := object.Bytes(object.Object{Kind: object.Tree, Entries: []object.Entry{{Name: "a", Id: object.Id([]byte(base))}}})
	if err != nil {
		t.Fatal(err)
	}
	objects := [][]byte{roomy([]byte(base)), roomy([]byte(base + "!")), roomy(tree)}
	known := [][]byte{roomy([]byte(base)), roomy([]byte("b"))}
	whole, err := Encode(objects)
	if err != nil {
		t.Fatal(err)
	}
	whole = roomy(whole)
	thin := roomy(packed(made(base, base+"!"), made(base, base+"?"), made(base, base))) // the last one is all of a known one
	given := append(slices.Concat(objects, known), whole, thin)
	var before [][]byte
	for _, list := range given {
		before = append(before, bytes.Clone(list[:cap(list)]))
	}
	want := lists(base, base+"!", string(tree))
	wantThin := lists(base+"!", base+"?", base)
	for range 2 {
		coded, _ := Encode(objects)
		texts, _ := Decode(whole, known)
		more, _ := Decode(thin, known)
		Depths(whole, known)
		Depths(thin, known)
		Count(whole)
		if !bytes.Equal(coded, whole) || !sameLists(texts, want) || !sameLists(more, wantThin) {
			t.Fatalf("%q, %q, %q", coded, texts, more)
		}
		answers := append(slices.Concat(texts, more), coded)
		for k, answer := range answers {
			others := slices.Delete(slices.Clone(answers), k, k+1)
			held := slices.Concat(others...)
			clear(answer)
			_ = append(answer, "more and more"...)
			if !bytes.Equal(slices.Concat(others...), held) {
				t.Fatalf("writing over answer %d changed another one", k)
			}
		}
		for k, list := range given {
			if !bytes.Equal(list[:cap(list)], before[k]) {
				t.Fatalf("list %d was changed: %q", k, list[:cap(list)])
			}
		}
	}
	texts, _ := Decode(whole, known)
	more, _ := Decode(thin, known)
	for _, list := range given {
		clear(list)
	}
	if !sameLists(texts, want) || !sameLists(more, wantThin) {
		t.Errorf("writing over what was given changed the answer: %q, %q", texts, more)
	}
}
