package entry

import (
	"bytes"
	"errors"
	"maps"
	"math"
	"slices"
	"strconv"
	"strings"
	"testing"

	"cartage/api"
	"cartage/object"
)

// some is right entries: plain ones, the smallest ones and the greatest ones.
func some(t *testing.T) []Entry {
	tree := mustObject(object.Object{Kind: object.Tree, Entries: []object.Entry{{Name: "file", Id: id(1)}}})
	commit := mustObject(object.Object{Kind: object.Commit, Target: id(2), Text: []byte("begin")})
	tag := mustObject(object.Object{Kind: object.Tag, Target: id(3), Text: []byte("v1")})
	one := []api.Update{update("refs/a")}
	list := []Entry{
		{Number: 1, Updates: one},
		{Client: 7, Number: 1 << 40, Updates: one},
		{Client: 3, Number: 0x0102030405, Updates: one, Objects: [][]byte{blob("x")}},
		{Number: 5, Updates: []api.Update{{Ref: "refs/a", Old: id(1)}}}, // the ref isn't there any more
		{Number: 6, Updates: []api.Update{{Ref: "refs/a", Old: id(1), New: id(2)}}},
		{Number: 7, Updates: []api.Update{{Ref: "a/b", Old: api.Oid{31: 1}}, {Ref: "a/a", New: api.Oid{31: 1}}, {Ref: "a/a/a", Old: id(1), New: id(2)}}},
		{Number: 8, Updates: []api.Update{{Ref: "r/b", New: id(1)}, {Ref: "r/a", New: id(1)}}},
		{Number: 9, Updates: updates(8, 24)},
		{Number: 10, Updates: one, Objects: [][]byte{tag, commit, tree, blob(""), blob("x"), blob("xx")}},
		{Number: 11, Updates: one, Objects: blobs(64, 2)},
		{Number: 12, Updates: one, Objects: blobs(64, 40)}, // 2772 bytes
		{Number: 13, Updates: updates(8, 24), Objects: blobs(6, 300)},
		filled(t, Entry{Number: 14, Updates: one}, 2800),
		filled(t, Entry{Number: 15, Updates: updates(8, 24)}, 2800),
		filled(t, Entry{Number: 16, Updates: one, Objects: blobs(58, 40)}, 2800),
	}
	for answer := 1; answer <= 10; answer++ {
		list = append(list, Entry{Client: answer % 8, Number: answer, Answer: answer})
	}
	return list
}

// wrong is entries that aren't right, each just so; not for their length alone.
func wrong() map[string]Entry {
	one := []api.Update{update("refs/a")}
	list := map[string]Entry{
		"nothing":                          {},
		"client -1":                        {Client: -1, Number: 1, Updates: one},
		"client 8":                         {Client: 8, Number: 1, Updates: one},
		"client 8 without OK":              {Client: 8, Number: 1, Answer: 1},
		"client 256":                       {Client: 256, Number: 1, Updates: one},
		"the least client":                 {Client: math.MinInt, Number: 1, Updates: one},
		"the greatest client":              {Client: math.MaxInt, Number: 1, Updates: one},
		"number 0":                         {Updates: one},
		"number 0 without OK":              {Answer: 1},
		"number -1":                        {Number: -1, Updates: one},
		"a number too great":               {Number: 1<<40 + 1, Updates: one},
		"a number too great without OK":    {Number: 1<<40 + 1, Answer: 3},
		"the least number":                 {Number: math.MinInt, Updates: one},
		"the greatest number":              {Number: math.MaxInt, Updates: one},
		"a number of 63 bits":              {Number: 1 << 62, Updates: one},
		"answer -1":                        {Number: 1, Answer: -1},
		"answer -1 with an update":         {Number: 1, Answer: -1, Updates: one},
		"answer 11":                        {Number: 1, Answer: 11},
		"answer 256":                       {Number: 1, Answer: 256},
		"answer 256 with an update":        {Number: 1, Answer: 256, Updates: one},
		"the least answer":                 {Number: 1, Answer: math.MinInt},
		"the greatest answer":              {Number: 1, Answer: math.MaxInt},
		"OK without updates":               {Number: 1},
		"OK with empty updates":            {Number: 1, Updates: []api.Update{}},
		"OK with an object alone":          {Number: 1, Objects: [][]byte{blob("x")}},
		"9 updates":                        {Number: 1, Updates: updates(9, 4)},
		"an object that is there twice":    {Number: 1, Updates: one, Objects: [][]byte{blob("x"), blob("y"), blob("x")}},
		"empty blobs":                      {Number: 1, Updates: one, Objects: [][]byte{blob(""), blob("")}},
		"65 objects":                       {Number: 1, Updates: one, Objects: blobs(65, 2)},
		"64 objects, and the first again":  {Number: 1, Updates: one, Objects: append(blobs(64, 2), blobs(1, 2)...)},
		"255 updates":                      {Number: 1, Updates: slices.Repeat(one, 255)},
		"256 updates":                      {Number: 1, Updates: slices.Repeat(one, 256)},
		"257 updates":                      {Number: 1, Updates: slices.Repeat(one, 257)},
		"256 objects":                      {Number: 1, Updates: one, Objects: slices.Repeat(blobs(1, 2), 256)},
		"too many bytes, and client 8":     {Client: 8, Number: 1, Updates: one, Objects: blobs(64, 300)},
		"too many bytes, and number 0":     {Updates: one, Objects: blobs(64, 300)},
		"too many bytes, and answer 1":     {Number: 1, Answer: 1, Updates: one, Objects: blobs(64, 300)},
		"too many bytes, and no updates":   {Number: 1, Objects: blobs(64, 300)},
		"too many bytes, and 9 updates":    {Number: 1, Updates: updates(9, 24), Objects: blobs(64, 300)},
		"too many bytes, and 65 objects":   {Number: 1, Updates: one, Objects: blobs(65, 300)},
		"too many bytes, one object twice": {Number: 1, Updates: one, Objects: append(blobs(60, 300), blobs(1, 300)...)},
		"too many bytes, one not right":    {Number: 1, Updates: one, Objects: append(blobs(60, 300), []byte("x"))},
	}
	for what, u := range wrongUpdates() {
		list[what] = Entry{Number: 1, Updates: u}
		list[what+" last"] = Entry{Number: 1, Updates: append(slices.Clone(one), u...)}
	}
	for what, text := range wrongObjects() {
		list[what] = Entry{Number: 1, Updates: one, Objects: [][]byte{text}}
		list[what+" last"] = Entry{Number: 1, Updates: one, Objects: [][]byte{blob("x"), text}}
	}
	for answer := 1; answer <= 10; answer++ {
		what := "answer " + strconv.Itoa(answer)
		list[what+" with an update"] = Entry{Number: 1, Answer: answer, Updates: one}
		list[what+" with an object"] = Entry{Number: 1, Answer: answer, Objects: [][]byte{blob("x")}}
		list[what+" with both"] = Entry{Number: 1, Answer: answer, Updates: one, Objects: [][]byte{blob("x")}}
	}
	return list
}

func wrongUpdates() map[string][]api.Update {
	list := map[string][]api.Update{
		"from an id to itself":    {{Ref: "refs/b", Old: id(1), New: id(1)}},
		"from noughts to noughts": {{Ref: "refs/b"}},
		"a ref twice":             {update("refs/b"), update("refs/b")},
		"a ref there and back":    {{Ref: "refs/b", Old: id(1), New: id(2)}, {Ref: "refs/b", Old: id(2), New: id(1)}},
		"a ref twice, far away":   {update("refs/b"), update("refs/c"), update("refs/d"), update("refs/b")},
		"a last one to itself":    {update("refs/b"), {Ref: "refs/c", Old: id(2), New: id(2)}},
		"a first one to itself":   {{Ref: "refs/c", Old: id(2), New: id(2)}, update("refs/b")},
	}
	for _, ref := range []string{
		"", "a", "a/", "/a", "a//b", "refs/.", "refs/..", "./a", "Refs/a", "refs/A", "refs/a b", "refs/a\n", "refs/a_", "refs/é", "refs/a\x00",
		"r/" + strings.Repeat("a", 23), "r/" + strings.Repeat("a", 254), "r/" + strings.Repeat("a", 1<<16),
	} {
		list["the ref "+ref] = []api.Update{update(ref)}
	}
	return list
}

func wrongObjects() map[string][]byte {
	return map[string][]byte{
		"an object of no bytes":        {},
		"nil":                          nil,
		"an object of another letter":  []byte("x"),
		"an object of 301 bytes":       append(blob(""), make([]byte, 300)...),
		"an object of 65536 bytes":     append(blob(""), make([]byte, 1<<16-1)...),
		"a commit that ends too soon":  []byte("c1234"),
		"a tag that ends too soon":     append([]byte("g"), make([]byte, 31)...),
		"a tree that ends too soon":    []byte("t\x01a"),
		"a tree with an empty name":    append([]byte("t\x00"), make([]byte, 32)...),
		"a tree with a name twice":     append([]byte("t\x01a"), append(append(make([]byte, 32), "\x01a"...), make([]byte, 32)...)...),
		"a commit with five parents":   append(append([]byte("c"), make([]byte, 32)...), append([]byte{5}, make([]byte, 160)...)...),
		"a commit with a parent short": append(append([]byte("c"), make([]byte, 32)...), append([]byte{1}, make([]byte, 31)...)...),
	}
}

// large is entries that are right but for their length.
func large(t *testing.T) []Entry {
	one := []api.Update{update("refs/a")}
	return []Entry{
		filled(t, Entry{Number: 1, Updates: one}, 2801),
		filled(t, Entry{Client: 7, Number: 1 << 40, Updates: one}, 2810),
		filled(t, Entry{Number: 1, Updates: updates(8, 24)}, 2801),
		filled(t, Entry{Number: 1, Updates: one, Objects: blobs(58, 40)}, 2801),
		{Number: 1, Updates: one, Objects: blobs(64, 41)},
		{Number: 1, Updates: one, Objects: blobs(9, 300)}, // 2802 bytes
		{Number: 1, Updates: updates(8, 24), Objects: blobs(64, 300)},
	}
}

func wantParseFault(t *testing.T, want error, b []byte) {
	t.Helper()
	e, err := Parse(b)
	if !errors.Is(err, want) || e.Client != 0 || e.Number != 0 || e.Answer != 0 || e.Updates != nil || e.Objects != nil {
		t.Errorf("Parse of %q: %v, %v, not %v", b, e, err, want)
	}
}

// wantAsPlain wants of Parse what the plain one says.
func wantAsPlain(t *testing.T, b []byte) {
	t.Helper()
	want, fault := plainParse(b)
	if fault != nil {
		wantParseFault(t, fault, b)
		return
	}
	if got, err := Parse(b); err != nil || !plainSame(got, want) {
		t.Errorf("Parse of %q: %v, %v, not %v", b, got, err, want)
	}
}

// mustBytes is a right entry's bytes.
func mustBytes(t *testing.T, e Entry) []byte {
	t.Helper()
	b, err := Bytes(e)
	if err != nil {
		t.Fatalf("Bytes of %v: %v", e, err)
	}
	return b
}

func TestExample(t *testing.T) {
	b, err := Bytes(Entry{Client: 1, Number: 1, Answer: api.CasMismatch})
	if err != nil || string(b) != "\x01\x00\x00\x00\x00\x00\x00\x00\x01\x02\x00\x00" {
		t.Errorf("client 1, number 1, CasMismatch: %x, %v", b, err)
	}
	if MaxBytes != 2800 {
		t.Errorf("MaxBytes is %d", MaxBytes)
	}
}

func TestBytesWrittenOut(t *testing.T) {
	one, two, none := strings.Repeat("1", 32), strings.Repeat("2", 32), strings.Repeat("\x00", 32)
	oid := func(s string) api.Oid { return api.Oid([]byte(s)) }
	head := "\x02\x00\x00\x01\x00\x00\x00\x00\x00\x00"
	cases := []struct {
		e    Entry
		want string
	}{
		{
			Entry{Client: 2, Number: 1 << 40, Updates: []api.Update{{Ref: "r/a", New: oid(one)}}},
			head + "\x01\x00\x03r/a" + none + one + "\x00",
		},
		{
			Entry{Client: 2, Number: 1 << 40, Updates: []api.Update{{Ref: "r/a", Old: oid(two), New: oid(one)}, {Ref: "r/1/2", Old: oid(one)}}, Objects: [][]byte{[]byte("bx"), []byte("g" + one + "v1"), []byte("b")}},
			head + "\x02\x00\x03r/a" + two + one + "\x00\x05r/1/2" + one + none + "\x03\x00\x02bx\x00\x23g" + one + "v1\x00\x01b",
		},
		{
			Entry{Client: 0, Number: 0x0123456789, Answer: api.Timeout},
			"\x00\x00\x00\x00\x01\x23\x45\x67\x89\x0a\x00\x00",
		},
		{
			Entry{Client: 7, Number: 3, Updates: []api.Update{{Ref: "r/a", New: oid(one)}}, Objects: [][]byte{append([]byte("b"), make([]byte, 299)...)}},
			"\x07\x00\x00\x00\x00\x00\x00\x00\x03\x00\x01\x00\x03r/a" + none + one + "\x01\x01\x2cb" + strings.Repeat("\x00", 299),
		},
	}
	for _, c := range cases {
		if b, err := Bytes(c.e); err != nil || string(b) != c.want {
			t.Errorf("Bytes of %v: %q, %v, not %q", c.e, b, err, c.want)
		}
		if e, err := Parse([]byte(c.want)); err != nil || !plainSame(e, c.e) {
			t.Errorf("Parse of %q: %v, %v, not %v", c.want, e, err, c.e)
		}
	}
}

func TestWhatIsRight(t *testing.T) {
	for _, e := range some(t) {
		if !Right(e) {
			t.Errorf("%v isn't right", e)
		}
		b := mustBytes(t, e)
		if !bytes.Equal(b, plainBytes(e)) || len(b) > 2800 {
			t.Errorf("Bytes of %v: %q", e, b)
		}
		if got, err := Parse(b); err != nil || !plainSame(got, e) || !Same(got, e) {
			t.Errorf("Parse of %q: %v, %v, not %v", b, got, err, e)
		}
	}
}

func TestWhatIsWrong(t *testing.T) {
	for what, e := range wrong() {
		if Right(e) {
			t.Errorf("%s: right", what)
		}
		if b, err := Bytes(e); !errors.Is(err, api.ErrForm) || b != nil {
			t.Errorf("Bytes of %s: %q, %v", what, b, err)
		}
		wantAsPlain(t, plainBytes(e))
	}
}

func TestWhatIsRightButForItsLength(t *testing.T) {
	for _, e := range large(t) {
		if Right(e) {
			t.Errorf("right, with %d bytes", plainSize(e))
		}
		if b, err := Bytes(e); !errors.Is(err, api.ErrLarge) || b != nil {
			t.Errorf("Bytes of %d bytes: %q, %v", plainSize(e), b, err)
		}
		wantParseFault(t, api.ErrLarge, plainBytes(e))
	}
	for _, base := range []Entry{{Number: 1, Updates: updates(1, 6)}, {Number: 1, Updates: updates(8, 24)}, {Number: 1, Updates: updates(3, 9), Objects: blobs(40, 40)}} {
		for size := 2700; size < 2900; size++ {
			e := filled(t, base, size)
			if Right(e) != (size <= 2800) {
				t.Errorf("Right with %d bytes: %v", size, Right(e))
			}
			b, err := Bytes(e)
			if size <= 2800 && (err != nil || len(b) != size) || size > 2800 && (!errors.Is(err, api.ErrLarge) || b != nil) {
				t.Errorf("Bytes with %d bytes: %d, %v", size, len(b), err)
			}
		}
	}
}

// What has none is right without OK, whether its list is none, or empty.
func TestEmptyLists(t *testing.T) {
	for answer := -1; answer <= 12; answer++ {
		none := Entry{Number: 1, Answer: answer}
		empty := Entry{Number: 1, Answer: answer, Updates: []api.Update{}, Objects: [][]byte{}}
		is := answer >= 1 && answer <= 10
		if Right(none) != is || Right(empty) != is {
			t.Errorf("answer %d: %v, %v", answer, Right(none), Right(empty))
		}
	}
	if !Right(Entry{Number: 1, Updates: updates(1, 6), Objects: [][]byte{}}) {
		t.Error("an update with an empty list of objects isn't right")
	}
}

func TestEachNumber(t *testing.T) {
	one := []api.Update{update("refs/a")}
	for n := -300; n < 300; n++ {
		for _, c := range []struct {
			e  Entry
			is bool
		}{
			{Entry{Client: n, Number: 1, Updates: one}, n >= 0 && n <= 7},
			{Entry{Client: n, Number: 1, Answer: 2}, n >= 0 && n <= 7},
			{Entry{Number: n, Updates: one}, n >= 1},
			{Entry{Number: n, Answer: 2}, n >= 1},
			{Entry{Number: 1<<40 + n, Updates: one}, n <= 0},
			{Entry{Number: 1<<40 + n, Answer: 2}, n <= 0},
			{Entry{Number: 1, Answer: n, Updates: one}, n == 0},
			{Entry{Number: 1, Answer: n}, n >= 1 && n <= 10},
		} {
			if Right(c.e) != c.is {
				t.Errorf("Right of %v: %v", c.e, !c.is)
			}
			if _, err := Bytes(c.e); (err == nil) != c.is || err != nil && !errors.Is(err, api.ErrForm) {
				t.Errorf("Bytes of %v: %v", c.e, err)
			}
		}
	}
}

func TestUpdates(t *testing.T) {
	for what, list := range wrongUpdates() {
		if Updates(list) {
			t.Errorf("%s: right", what)
		}
		if Updates(append(updates(1, 4), list...)) || Updates(append(slices.Clone(list), updates(1, 4)...)) {
			t.Errorf("%s, and another one: right", what)
		}
	}
	for n := range 300 {
		list := updates(min(n, 26), 4)
		list = append(list, slices.Repeat(list, n)[:n-len(list)]...)
		if Updates(list) != (n >= 1 && n <= 8) {
			t.Errorf("%d updates: %v", n, Updates(list))
		}
		if list := updates(1, 3+n); Updates(list) != (3+n <= 24) {
			t.Errorf("a ref of %d bytes: %v", 3+n, Updates(list))
		}
	}
	if Updates(nil) || Updates([]api.Update{}) {
		t.Error("no updates: right")
	}
	for k := range 32 {
		near := id(1)
		near[k]++
		if list := []api.Update{{Ref: "a/b", Old: id(1), New: near}}; !Updates(list) {
			t.Errorf("ids that differ in byte %d: not right", k)
		}
	}
	one := api.Update{Ref: "a/b", Old: id(1), New: id(2)}
	if !Updates([]api.Update{one, {Ref: "a/c", Old: id(1), New: id(2)}, {Ref: "b/b", Old: id(2), New: id(1)}}) {
		t.Error("ids that come again: not right")
	}
	if !Updates([]api.Update{{Ref: "a/b/c", New: id(1)}, {Ref: "a/b", New: id(1)}}) {
		t.Error("a ref below another one: not right") // nothing is told of that
	}
}

func TestUpdatesOfEachByteOfRefs(t *testing.T) {
	for c := range 256 {
		for _, ref := range []string{"%", "a/%", "%/a", "a%b/c", "a/b%c", "a/b/%", "..%/a"} {
			list := []api.Update{update(strings.ReplaceAll(ref, "%", string([]byte{byte(c)})))}
			if Updates(list) != plainUpdates(list) {
				t.Errorf("the ref %q: %v", list[0].Ref, Updates(list))
			}
		}
	}
}

func TestOfManyEntries(t *testing.T) {
	c := &chance{1}
	var right, formed int
	for range 20000 {
		e := c.entry()
		size := plainSize(e)
		is := plainFormed(e) && size <= 2800
		if Right(e) != is || Updates(e.Updates) != plainUpdates(e.Updates) {
			t.Fatalf("Right of %v: %v", e, Right(e))
		}
		b, err := Bytes(e)
		switch {
		case is:
			right++
			if err != nil || !bytes.Equal(b, plainBytes(e)) {
				t.Fatalf("Bytes of %v: %q, %v", e, b, err)
			}
			if got, err := Parse(b); err != nil || !Same(got, e) || !plainSame(got, e) {
				t.Fatalf("Parse of %q: %v, %v, not %v", b, got, err, e)
			}
		case plainFormed(e):
			formed++
			if !errors.Is(err, api.ErrLarge) || b != nil {
				t.Fatalf("Bytes of %v: %q, %v", e, b, err)
			}
		default:
			if !errors.Is(err, api.ErrForm) || b != nil {
				t.Fatalf("Bytes of %v: %q, %v", e, b, err)
			}
		}
		wantAsPlain(t, plainBytes(e))
	}
	if right < 8000 || right > 18000 || formed < 100 {
		t.Errorf("%d of the entries were right, %d but for their length", right, formed)
	}
}

// No two right entries have the same bytes.
func TestEachEntryHasOneText(t *testing.T) {
	c := &chance{2}
	byText := map[string]Entry{}
	list := some(t)
	for range 5000 {
		if e := c.entry(); plainFormed(e) && plainSize(e) <= 2800 {
			list = append(list, e)
		}
	}
	for _, e := range list {
		b := mustBytes(t, e)
		if other, has := byText[string(b)]; has && !plainSame(e, other) {
			t.Fatalf("%v and %v have the same bytes", e, other)
		}
		byText[string(b)] = e
	}
}

func TestParseOfTooManyBytes(t *testing.T) {
	for _, n := range []int{2801, 2802, 3000, 1 << 16, 1 << 20} { // ahead of all other errors
		for _, first := range []string{"", "\x08", "\x01\xff", "\x01\x00\x00\x00\x00\x00\x00\x00\x01\x02\x00\x00", "\x01\x00\x00\x00\x00\x00\x00\x00\x01\x02\xff"} {
			b := make([]byte, n)
			copy(b, first)
			wantParseFault(t, api.ErrLarge, b)
		}
	}
	for _, e := range some(t) {
		b := mustBytes(t, e)
		wantParseFault(t, api.ErrLarge, append(b, make([]byte, 2801-len(b))...))
	}
}

func TestParseOfBytesThatEndTooSoon(t *testing.T) {
	wantParseFault(t, api.ErrShort, nil)
	wantParseFault(t, api.ErrShort, []byte{})
	for _, e := range some(t) {
		b := mustBytes(t, e)
		for n := range b {
			wantParseFault(t, api.ErrShort, b[:n])
		}
	}
	for what, e := range wrong() { // they end too soon, whatever else isn't right
		b := plainBytes(e)
		if _, fault := plainParse(b); fault == api.ErrForm {
			for n := range b {
				if _, err := Parse(b[:n]); !errors.Is(err, api.ErrShort) {
					t.Errorf("Parse of %s, %d bytes: %v", what, n, err)
				}
			}
		}
	}
}

func TestParseOfBytesThatAreLeft(t *testing.T) {
	for _, e := range some(t) {
		b := mustBytes(t, e)
		for n := 1; n < 40 && len(b)+n <= 2800; n++ {
			wantParseFault(t, api.ErrLong, append(bytes.Clone(b), make([]byte, n)...))
		}
	}
	for what, e := range wrong() { // they are left, whatever else isn't right
		b := plainBytes(e)
		if _, fault := plainParse(b); fault == api.ErrForm && len(b) < 2800 {
			if _, err := Parse(append(b, 0)); !errors.Is(err, api.ErrLong) {
				t.Errorf("Parse of %s, a byte left: %v", what, err)
			}
		}
	}
}

// A number of eight bytes has a bound of layer 2's, ahead of what stands behind it; the entry's own bound is asked last.
func TestParseOfNumbers(t *testing.T) {
	const behind = "\x02\x00\x00"
	for _, c := range []struct {
		number string
		want   error
	}{
		{"\x00\x00\x00\x00\x00\x00\x00\x00", api.ErrForm},
		{"\x00\x00\x01\x00\x00\x00\x00\x01", api.ErrForm},
		{"\x3f\xff\xff\xff\xff\xff\xff\xff", api.ErrForm},
		{"\x40\x00\x00\x00\x00\x00\x00\x00", api.ErrRange},
		{"\x7f\xff\xff\xff\xff\xff\xff\xff", api.ErrRange},
		{"\x80\x00\x00\x00\x00\x00\x00\x01", api.ErrRange},
		{"\xff\xff\xff\xff\xff\xff\xff\xff", api.ErrRange},
	} {
		for _, client := range []string{"\x01", "\x08", "\xff"} {
			wantParseFault(t, c.want, []byte(client+c.number+behind))
			short, left := api.ErrShort, api.ErrLong
			if c.want == api.ErrRange {
				short, left = api.ErrRange, api.ErrRange
			}
			wantParseFault(t, short, []byte(client+c.number+behind[:2]))
			wantParseFault(t, short, []byte(client+c.number))
			wantParseFault(t, left, []byte(client+c.number+behind+"\x00"))
			wantParseFault(t, api.ErrShort, []byte(client+c.number[:7]))
		}
	}
}

// Each byte of right bytes is put anew, taken out, and doubled.
func TestParseOfChangedBytes(t *testing.T) {
	for _, e := range some(t) {
		b := mustBytes(t, e)
		if len(b) > 700 {
			continue
		}
		for k := range b {
			step := 1 // all values of the first entries' bytes
			if e.Number > 4 {
				step = 17
			}
			for c := 0; c < 256; c += step {
				other := bytes.Clone(b)
				other[k] = byte(c)
				wantAsPlain(t, other)
				other[k] = b[k] ^ byte(c)&3
				wantAsPlain(t, other)
			}
			wantAsPlain(t, slices.Delete(bytes.Clone(b), k, k+1))
			wantAsPlain(t, slices.Insert(bytes.Clone(b), k, b[k]))
		}
	}
}

func TestParseOfEachShortText(t *testing.T) {
	const few = "\x00\x01\x07\x0b"
	for n := range 1 << 16 {
		b := make([]byte, 12)
		b[0], b[8], b[9], b[10] = few[n&3], few[n>>2&3], few[n>>4&3], few[n>>6&3]
		b[11], b[3], b[1] = few[n>>8&3], few[n>>10&3], few[n>>12&3]
		wantAsPlain(t, b[:12-n>>14])
	}
}

func TestParseOfAnyBytes(t *testing.T) {
	c := &chance{3}
	entries := 0
	for range 30000 {
		b := plainBytes(c.entry())
		for range c.below(3) {
			at := c.below(len(b))
			if c.below(2) == 0 {
				at = min(at, c.below(16))
			}
			b[at] = byte([]int{0, 1, 2, 3, 255, c.below(256)}[c.below(6)])
		}
		if c.below(8) == 0 {
			b = b[:c.below(len(b)+1)]
		}
		wantAsPlain(t, b)
		e, err := Parse(b)
		if err != nil {
			continue
		}
		entries++
		if again, err := Bytes(e); err != nil || !bytes.Equal(again, b) || !Right(e) {
			t.Fatalf("the bytes of what is parsed of %q: %q, %v", b, again, err)
		}
	}
	if entries < 5000 {
		t.Errorf("%d of the bytes were entries", entries)
	}
}

func full() Entry {
	return Entry{
		Client: 3, Number: 9, Answer: 4,
		Updates: []api.Update{{Ref: "refs/a", Old: id(1), New: id(2)}, {Ref: "refs/b", New: id(3)}},
		Objects: [][]byte{blob("x"), blob("yy"), {}},
	}
}

func TestSame(t *testing.T) {
	others := map[string]func(e *Entry){
		"client":               func(e *Entry) { e.Client++ },
		"number":               func(e *Entry) { e.Number++ },
		"answer":               func(e *Entry) { e.Answer++ },
		"a ref":                func(e *Entry) { e.Updates[1].Ref = "refs/c" },
		"a longer ref":         func(e *Entry) { e.Updates[1].Ref += "\x00" },
		"an old id":            func(e *Entry) { e.Updates[0].Old[31]++ },
		"a new id":             func(e *Entry) { e.Updates[1].New[0]++ },
		"the updates' order":   func(e *Entry) { slices.Reverse(e.Updates) },
		"the updates' number":  func(e *Entry) { e.Updates = e.Updates[:1] },
		"an update more":       func(e *Entry) { e.Updates = append(e.Updates, e.Updates[1]) },
		"no updates":           func(e *Entry) { e.Updates = nil },
		"an object's byte":     func(e *Entry) { e.Objects[1][2] = 'z' },
		"an object's length":   func(e *Entry) { e.Objects[1] = e.Objects[1][:2] },
		"the objects' order":   func(e *Entry) { slices.Reverse(e.Objects) },
		"the objects' number":  func(e *Entry) { e.Objects = e.Objects[:2] },
		"an empty object more": func(e *Entry) { e.Objects = append(e.Objects, nil) },
		"objects put together": func(e *Entry) { e.Objects = [][]byte{blob("xbyy"), {}, {}} },
		"no objects":           func(e *Entry) { e.Objects = nil },
	}
	for what, change := range others {
		e := full()
		change(&e)
		if Same(e, full()) || Same(full(), e) {
			t.Errorf("%s is another, and they are the same", what)
		}
		if !Same(e, e) || !Same(e, Copy(e)) {
			t.Errorf("%s is another, and it isn't the same as itself", what)
		}
	}
	none, empty := Entry{Number: 1}, Entry{Number: 1, Updates: []api.Update{}, Objects: [][]byte{}}
	if !Same(none, empty) || !Same(empty, none) || !Same(Entry{}, Entry{}) || !Same(full(), full()) {
		t.Error("empty lists aren't the same as none")
	}
	if !Same(Entry{Objects: [][]byte{nil}}, Entry{Objects: [][]byte{{}}}) {
		t.Error("an object of no bytes isn't the same as nil")
	}
	if Same(Entry{}, Entry{Client: math.MinInt}) || Same(Entry{Number: math.MaxInt}, Entry{Number: math.MinInt}) {
		t.Error("entries that aren't right aren't told apart")
	}
}

func TestSameOfEachPair(t *testing.T) {
	c := &chance{4}
	list := append(some(t), full())
	for range 60 {
		e := c.entry()
		list = append(list, e, Copy(e))
	}
	for _, a := range list {
		for _, b := range list {
			if Same(a, b) != plainSame(a, b) {
				t.Fatalf("Same of %v and %v: %v", a, b, Same(a, b))
			}
		}
	}
}

// scribble writes over all that an entry has, and into the room behind.
func scribble(e Entry) {
	for _, text := range e.Objects[:cap(e.Objects)] {
		clear(text[:cap(text)])
		_ = append(text, "more and more"...)
	}
	clear(e.Objects[:cap(e.Objects)])
	_ = append(e.Objects, blob("more"), blob("more"))
	clear(e.Updates[:cap(e.Updates)])
	_ = append(e.Updates, update("refs/more"), update("refs/more"))
}

// roomy is an entry apart, whose lists have room behind them, with something in it.
func roomy(e Entry) Entry {
	room := e
	room.Updates = append(slices.Clone(e.Updates), updates(2, 5)...)[:len(e.Updates)]
	room.Objects = nil
	for _, text := range e.Objects {
		room.Objects = append(room.Objects, append(bytes.Clone(text), "room"...)[:len(text)])
	}
	room.Objects = append(room.Objects, blob("the room behind"))[:len(e.Objects)]
	return room
}

// deep is an entry apart, with the room behind its lists.
func deep(e Entry) Entry {
	e.Updates = slices.Clone(e.Updates[:cap(e.Updates)])
	e.Objects = slices.Clone(e.Objects[:cap(e.Objects)])
	for k, text := range e.Objects {
		e.Objects[k] = bytes.Clone(text[:cap(text)])
	}
	return e
}

// rightAndWrong is entries of all sorts.
func rightAndWrong(t *testing.T) []Entry {
	list := append(some(t), full(), Entry{}, Entry{Updates: []api.Update{}, Objects: [][]byte{}}, Entry{Objects: [][]byte{nil, {}}})
	return append(list, slices.Collect(maps.Values(wrong()))...)
}

func TestCopyIsApart(t *testing.T) {
	for _, e := range rightAndWrong(t) {
		room := roomy(e)
		first, second := Copy(room), Copy(room)
		if !plainSame(first, e) || !plainSame(second, e) {
			t.Fatalf("Copy of %v: %v", e, first)
		}
		before := deep(room)
		scribble(first)
		if !plainSame(second, e) || !plainSame(deep(room), before) {
			t.Fatalf("writing over a copy changed another one, or what it was made of: %v", e)
		}
		scribble(room)
		if !plainSame(second, e) {
			t.Fatalf("writing over what a copy was made of changed it: %v", e)
		}
	}
	if e := Copy(Entry{Client: 1, Number: 2, Answer: 3}); e.Updates != nil || e.Objects != nil {
		t.Errorf("Copy of none: %v", e)
	}
}

func TestNothingThatIsGivenIsChanged(t *testing.T) {
	for _, e := range rightAndWrong(t) {
		room := roomy(e)
		before := deep(room)
		Right(room)
		Updates(room.Updates)
		Same(room, e)
		Copy(room)
		if b, err := Bytes(room); err == nil {
			clear(b[:cap(b)])
			_ = append(b, "more and more"...)
		}
		if !plainSame(deep(room), before) {
			t.Fatalf("%v was changed", e)
		}
	}
}

func TestParseSharesNothing(t *testing.T) {
	for _, want := range some(t) {
		b := mustBytes(t, want)
		if again := mustBytes(t, want); !bytes.Equal(again, b) {
			t.Fatalf("Bytes of %v: %q, and then %q", want, b, again)
		}
		room := append(bytes.Clone(b), "the room behind"...)
		before := bytes.Clone(room)
		first, err := Parse(room[:len(b)])
		second, again := Parse(room[:len(b)])
		if err != nil || again != nil || !bytes.Equal(room, before) {
			t.Fatalf("Parse of %q: %v, %v, or its bytes were changed", b, err, again)
		}
		clear(room)
		if !plainSame(first, want) {
			t.Fatalf("writing over the bytes changed %v", want)
		}
		scribble(first)
		if !plainSame(second, want) {
			t.Fatalf("writing over one answer changed the other one: %v", want)
		}
	}
}
