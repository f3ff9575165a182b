package object

import (
	"bytes"
	"crypto/sha256"
	"encoding/hex"
	"errors"
	"maps"
	"math"
	"slices"
	"strings"
	"testing"

	"cartage/api"
)

// some is right objects: of each kind a plain one, the smallest ones and the greatest ones.
func some() []Object {
	return []Object{
		{Kind: Blob, Text: []byte("x")},
		{Kind: Blob},
		{Kind: Blob, Text: bytes.Repeat([]byte{0, 255, 'b'}, 99)},
		{Kind: Blob, Text: bytes.Repeat([]byte("~"), 299)},
		{Kind: Tree},
		{Kind: Tree, Entries: []Entry{{"file", id(1)}}},
		{Kind: Tree, Entries: []Entry{{"a", id(3)}, {"aa", id(2)}, {"b", id(3)}}},
		{Kind: Tree, Entries: []Entry{{"!", id(1)}, {".", api.Oid{}}, {"0", id(1)}, {"A-Z", id(4)}, {"a.b_c~", id(5)}, {"~", id(1)}}},
		{Kind: Tree, Entries: rising(1, 1, 1, 1, 1, 1, 1, 1)},
		{Kind: Tree, Entries: rising(5, 5, 5, 4, 4, 4, 4, 4)}, // 300 bytes
		{Kind: Tree, Entries: rising(12, 12, 12, 12, 12, 12)},
		{Kind: Commit},
		{Kind: Commit, Text: []byte("begin"), Target: id(1)},
		{Kind: Commit, Text: []byte("go on"), Target: id(1), Parents: ids(1)},
		{Kind: Commit, Text: []byte{0, 4, 255}, Parents: []api.Oid{id(7), id(2), id(7), {}}},
		{Kind: Commit, Text: bytes.Repeat([]byte("m"), 138), Target: id(9), Parents: ids(4)}, // 300 bytes
		{Kind: Commit, Text: bytes.Repeat([]byte("m"), 266), Target: id(9)},                  // 300 bytes
		{Kind: Tag},
		{Kind: Tag, Text: []byte("v1.0"), Target: id(2)},
		{Kind: Tag, Text: bytes.Repeat([]byte("m"), 267), Target: id(9)}, // 300 bytes
	}
}

// wrong is objects that aren't right, each just so.
func wrong() map[string]Object {
	twice := []Entry{{"a", id(1)}, {"a", id(2)}}
	return map[string]Object{
		"no kind":                              {},
		"no kind, a text":                      {Text: []byte("x")},
		"kind -1":                              {Kind: -1, Text: []byte("x")},
		"kind 5":                               {Kind: 5, Text: []byte("x")},
		"the greatest kind":                    {Kind: math.MaxInt},
		"the least kind":                       {Kind: math.MinInt},
		"kind 257":                             {Kind: 257},
		"kind b":                               {Kind: 'b'},
		"a blob with an entry":                 {Kind: Blob, Entries: rising(1)},
		"a blob with a target":                 {Kind: Blob, Target: id(1)},
		"a blob with a target's last byte":     {Kind: Blob, Target: api.Oid{31: 1}},
		"a blob with a parent":                 {Kind: Blob, Parents: ids(1)},
		"a blob with a parent of noughts":      {Kind: Blob, Parents: make([]api.Oid, 1)},
		"a blob of 301 bytes":                  {Kind: Blob, Text: make([]byte, 300)},
		"a blob of many bytes":                 {Kind: Blob, Text: make([]byte, 1<<20)},
		"a tree with a text":                   {Kind: Tree, Text: []byte("x")},
		"a tree with a target":                 {Kind: Tree, Target: id(1), Entries: rising(1)},
		"a tree with a parent":                 {Kind: Tree, Parents: ids(1), Entries: rising(1)},
		"a tree of 301 bytes":                  {Kind: Tree, Entries: rising(5, 5, 5, 5, 4, 4, 4, 4)},
		"a tree with 9 entries":                {Kind: Tree, Entries: rising(1, 1, 1, 1, 1, 1, 1, 1, 1)},
		"a tree with 200 entries":              {Kind: Tree, Entries: slices.Repeat(rising(1), 200)},
		"a tree with a name twice":             {Kind: Tree, Entries: twice},
		"a tree with a name and an id twice":   {Kind: Tree, Entries: slices.Repeat(rising(1), 2)},
		"a tree with names falling":            {Kind: Tree, Entries: []Entry{{"b", id(1)}, {"a", id(2)}}},
		"a tree whose last names fall":         {Kind: Tree, Entries: []Entry{{"a", id(1)}, {"c", id(2)}, {"b", id(3)}}},
		"a tree with a beginning behind":       {Kind: Tree, Entries: []Entry{{"ab", id(1)}, {"a", id(2)}}},
		"a tree in the order of lengths":       {Kind: Tree, Entries: []Entry{{"b", id(1)}, {"aa", id(2)}}},
		"a tree that knows no capitals":        {Kind: Tree, Entries: []Entry{{"a", id(1)}, {"B", id(2)}}},
		"a tree with an empty name":            {Kind: Tree, Entries: []Entry{{"", id(1)}}},
		"a tree with an empty name first":      {Kind: Tree, Entries: []Entry{{"", id(1)}, {"a", id(2)}}},
		"a tree with a name of 13 bytes":       {Kind: Tree, Entries: rising(13)},
		"a tree with a name of 13 bytes last":  {Kind: Tree, Entries: rising(1, 13)},
		"a tree with a name of 256 bytes":      {Kind: Tree, Entries: rising(256)},
		"a tree with a name of 257 bytes":      {Kind: Tree, Entries: rising(257)},
		"a tree with a name of 7 runes":        {Kind: Tree, Entries: []Entry{{strings.Repeat("é", 7), id(1)}}},
		"a tree with a path":                   {Kind: Tree, Entries: []Entry{{"a/b", id(1)}}},
		"a tree with a name with a space":      {Kind: Tree, Entries: []Entry{{"a b", id(1)}}},
		"a tree with a name with a line's end": {Kind: Tree, Entries: []Entry{{"a\n", id(1)}}},
		"a tree with a rune":                   {Kind: Tree, Entries: []Entry{{"é", id(1)}}},
		"a commit with an entry":               {Kind: Commit, Entries: rising(1), Target: id(1)},
		"a commit with 5 parents":              {Kind: Commit, Target: id(1), Parents: ids(5)},
		"a commit with 256 parents":            {Kind: Commit, Target: id(1), Parents: ids(256)},
		"a commit with 257 parents":            {Kind: Commit, Target: id(1), Parents: ids(257)},
		"a commit of 301 bytes":                {Kind: Commit, Text: make([]byte, 139), Parents: ids(4)},
		"a first commit of 301 bytes":          {Kind: Commit, Text: make([]byte, 267)},
		"a tag with an entry":                  {Kind: Tag, Entries: rising(1), Target: id(1)},
		"a tag with a parent":                  {Kind: Tag, Target: id(1), Parents: ids(1)},
		"a tag of 301 bytes":                   {Kind: Tag, Text: make([]byte, 268), Target: id(1)},
	}
}

func wantParseFault(t *testing.T, want error, b []byte) {
	t.Helper()
	o, err := Parse(b)
	if !errors.Is(err, want) || o.Kind != 0 || o.Text != nil || o.Entries != nil || o.Target != (api.Oid{}) || o.Parents != nil {
		t.Errorf("Parse of %q: %v, %v, not %v", b, o, err, want)
	}
}

// wantAsPlain wants of Parse what the plain one says.
func wantAsPlain(t *testing.T, b []byte) {
	t.Helper()
	want, fault := plainParse(b)
	if fault != nil {
		wantParseFault(t, fault, b)
		return
	}
	if got, err := Parse(b); err != nil || !plainSame(got, want) {
		t.Errorf("Parse of %q: %v, %v, not %v", b, got, err, want)
	}
}

func TestKinds(t *testing.T) {
	if Blob != 1 || Tree != 2 || Commit != 3 || Tag != 4 {
		t.Error("the kinds aren't 1 to 4")
	}
}

func TestExample(t *testing.T) {
	b, err := Bytes(Object{Kind: Blob, Text: []byte("x")})
	if err != nil || string(b) != "bx" {
		t.Errorf("a blob x: %q, %v", b, err)
	}
}

func TestBytesOfEachKind(t *testing.T) {
	one, two, three := strings.Repeat("1", 32), strings.Repeat("2", 32), strings.Repeat("3", 32)
	oid := func(s string) api.Oid { return api.Oid([]byte(s)) }
	cases := []struct {
		o    Object
		want string
	}{
		{Object{Kind: Blob}, "b"},
		{Object{Kind: Blob, Text: []byte("a\x00\xff")}, "ba\x00\xff"},
		{Object{Kind: Tree}, "t"},
		{Object{Kind: Tree, Entries: []Entry{{"a", oid(one)}}}, "t\x01a" + one},
		{Object{Kind: Tree, Entries: []Entry{{"abc", oid(two)}, {"longest-name", oid(one)}}}, "t\x03abc" + two + "\x0clongest-name" + one},
		{Object{Kind: Commit, Target: oid(one)}, "c" + one + "\x00"},
		{Object{Kind: Commit, Target: oid(one), Text: []byte("why")}, "c" + one + "\x00why"},
		{Object{Kind: Commit, Target: oid(one), Text: []byte("why"), Parents: []api.Oid{oid(three), oid(two)}}, "c" + one + "\x02" + three + two + "why"},
		{Object{Kind: Tag, Target: oid(two)}, "g" + two},
		{Object{Kind: Tag, Target: oid(two), Text: []byte("v1\n")}, "g" + two + "v1\n"},
	}
	for _, c := range cases {
		if b, err := Bytes(c.o); err != nil || string(b) != c.want {
			t.Errorf("Bytes of %v: %q, %v, not %q", c.o, b, err, c.want)
		}
		if o, err := Parse([]byte(c.want)); err != nil || !plainSame(o, c.o) {
			t.Errorf("Parse of %q: %v, %v, not %v", c.want, o, err, c.o)
		}
	}
}

func TestWhatIsRight(t *testing.T) {
	for _, o := range some() {
		if !Right(o) {
			t.Errorf("%v isn't right", o)
		}
		if b, err := Bytes(o); err != nil || !bytes.Equal(b, plainBytes(o)) {
			t.Errorf("Bytes of %v: %q, %v", o, b, err)
		}
	}
}

func TestWhatIsWrong(t *testing.T) {
	for what, o := range wrong() {
		if Right(o) {
			t.Errorf("%s is right", what)
		}
		if b, err := Bytes(o); !errors.Is(err, api.ErrForm) || b != nil {
			t.Errorf("Bytes of %s: %q, %v", what, b, err)
		}
	}
}

// What isn't of an object's kind is empty, whether its list is none, or has none.
func TestEmptyListsAreRight(t *testing.T) {
	for kind := Blob; kind <= Tag; kind++ {
		o := Object{Kind: kind, Text: []byte{}, Entries: []Entry{}, Parents: []api.Oid{}}
		b, err := Bytes(o)
		if !Right(o) || err != nil || !bytes.Equal(b, plainBytes(o)) {
			t.Errorf("kind %d with empty lists: %q, %v", kind, b, err)
		}
	}
}

func TestRightOfEachByteOfNames(t *testing.T) {
	for c := range 256 {
		is := c >= 33 && c <= 126 && c != 47
		b := string([]byte{byte(c)})
		for _, name := range []string{b, b + "a", "a" + b, "a" + b + "a", "abcdefghijk" + b, "abcde" + b + "ghijkl"} {
			for _, list := range [][]Entry{{{name, id(1)}}, {{"\"", id(1)}, {"~~" + name, id(2)}}} {
				o := Object{Kind: Tree, Entries: list}
				right := is && len(list[len(list)-1].Name) <= 12
				if Right(o) != right {
					t.Errorf("a tree with the name %q: %v", list[len(list)-1].Name, !right)
				}
				wantAsPlain(t, plainBytes(o))
			}
		}
	}
}

func TestRightOfEachLength(t *testing.T) {
	for n := range 320 {
		cases := []struct {
			o  Object
			is bool
		}{
			{Object{Kind: Blob, Text: make([]byte, n)}, n <= 299},
			{Object{Kind: Tree, Entries: rising(n)}, n >= 1 && n <= 12},
			{Object{Kind: Tree, Entries: rising(12, 12, 12, 12, 12, 12, n)}, false},
			{Object{Kind: Tree, Entries: rising(12, 12, 12, 12, 12, n)}, n >= 1 && n <= 12},
			{Object{Kind: Tree, Entries: rising(8, 4, 4, 4, 4, 4, 4, n)}, n >= 1 && n <= 3},
			{Object{Kind: Tree, Entries: rising(slices.Repeat([]int{1}, n)...)}, n <= 8},
			{Object{Kind: Commit, Parents: make([]api.Oid, n)}, n <= 4},
			{Object{Kind: Commit, Text: make([]byte, n)}, n <= 266},
			{Object{Kind: Commit, Text: make([]byte, n), Parents: ids(1)}, n <= 234},
			{Object{Kind: Commit, Text: make([]byte, n), Parents: ids(4)}, n <= 138},
			{Object{Kind: Tag, Text: make([]byte, n)}, n <= 267},
		}
		for k, c := range cases {
			if Right(c.o) != c.is {
				t.Errorf("case %d, length %d: %v", k, n, !c.is)
			}
			if b, err := Bytes(c.o); (err == nil) != c.is || len(b) > 300 {
				t.Errorf("Bytes in case %d, length %d: %d bytes, %v", k, n, len(b), err)
			}
		}
	}
}

func TestOfManyObjects(t *testing.T) {
	c := &chance{1}
	right := 0
	for range 20000 {
		o := c.object()
		if Right(o) != plainRight(o) {
			t.Fatalf("Right of %v: %v", o, Right(o))
		}
		if !slices.Equal(Links(o), plainLinks(o)) {
			t.Fatalf("Links of %v: %x", o, Links(o))
		}
		b, err := Bytes(o)
		if !plainRight(o) {
			if !errors.Is(err, api.ErrForm) || b != nil {
				t.Fatalf("Bytes of %v: %q, %v", o, b, err)
			}
			wantAsPlain(t, plainBytes(o))
			continue
		}
		right++
		if err != nil || !bytes.Equal(b, plainBytes(o)) {
			t.Fatalf("Bytes of %v: %q, %v", o, b, err)
		}
		if got, err := Parse(b); err != nil || !Same(got, o) || !plainSame(got, o) {
			t.Fatalf("Parse of %q: %v, %v, not %v", b, got, err, o)
		}
	}
	if right < 5000 || right > 18000 {
		t.Errorf("%d of the objects were right", right)
	}
}

func TestParseOfTooManyBytes(t *testing.T) {
	for _, n := range []int{301, 302, 400, 1 << 20} { // ahead of all other errors
		for _, first := range []string{"b", "t", "c", "g", "x", "\x00", "t\x00", "t\xff", "c" + strings.Repeat("\xff", 33)} {
			b := make([]byte, n)
			copy(b, first)
			wantParseFault(t, api.ErrLarge, b)
		}
	}
	for _, o := range some() {
		b := mustBytes(t, o)
		if len(b) == 300 {
			wantParseFault(t, api.ErrLarge, append(b, 'x'))
		}
	}
	wantParseFault(t, api.ErrLarge, plainBytes(Object{Kind: Tree, Entries: rising(1, 1, 1, 1, 1, 1, 1, 1, 1)}))
}

func TestParseOfOtherLetters(t *testing.T) {
	for c := range 256 {
		if strings.IndexByte("btcg", byte(c)) >= 0 {
			continue
		}
		for n := range 301 {
			if n > 0 {
				b := make([]byte, n)
				b[0] = byte(c)
				wantParseFault(t, api.ErrKind, b)
			}
		}
	}
}

func TestParseOfBytesThatEndTooSoon(t *testing.T) {
	wantParseFault(t, api.ErrShort, nil)
	wantParseFault(t, api.ErrShort, []byte{})
	for _, o := range some() {
		b := mustBytes(t, o)
		for n := range b {
			wantAsPlain(t, b[:n])
		}
	}
	one := strings.Repeat("1", 32)
	for _, short := range []string{
		"t\x01", "t\x01a", "t\x01a" + one[:31], "t\x01a" + one + "\x01", "t\x01a" + one + "\x02b" + one[1:],
		"t\x0c", "t\x0clongest-name", "t\x0clongest-nam" + one[:31],
		"c", "c" + one[:31], "c" + one, "c" + one + "\x01", "c" + one + "\x01" + one[:31], "c" + one + "\x02" + one + "message",
		"g", "g" + one[:31],
	} {
		wantParseFault(t, api.ErrShort, []byte(short))
	}
}

// Bytes that end too soon are told ahead of what isn't right in them.
func TestParseTellsShortAheadOfForm(t *testing.T) {
	one := strings.Repeat("1", 32)
	for _, short := range []string{
		"t\x00", "t\x00" + one[:31], "t\x00" + one + "\x00", "t\x0d" + one, "t\xff", "t\xff" + one + one + one,
		"t\x01/" + one + "\x01", "t\x01b" + one + "\x01a" + one[:31], "t\x01a" + one + "\x01a" + one[:31],
		"c" + one + "\x05" + strings.Repeat(one, 4), "c" + one + "\x05" + strings.Repeat(one, 5)[1:], "c" + one + "\xff" + strings.Repeat(one, 8),
	} {
		wantParseFault(t, api.ErrShort, []byte(short))
	}
	for count := range 256 {
		for parents := range 9 {
			b := []byte("c" + one + string([]byte{byte(count)}) + strings.Repeat(one, parents))
			switch {
			case count > parents:
				wantParseFault(t, api.ErrShort, b)
			case count > 4:
				wantParseFault(t, api.ErrForm, b)
			}
			wantAsPlain(t, b)
		}
	}
}

func TestParseOfWhatIsWrong(t *testing.T) {
	one := strings.Repeat("1", 32)
	for _, b := range []string{
		"t\x00" + one, "t\x00" + one + "\x01a" + one, "t\x01a" + one + "\x00" + one, "t" + strings.Repeat("\x00"+one, 9),
		"t\x0dlongest-name0" + one, "t\x01/" + one, "t\x03a/b" + one, "t\x01 " + one, "t\x01\x7f" + one, "t\x01\x00" + one, "t\x01\xff" + one, "t\x02é" + one,
		"t\x01a" + one + "\x01a" + one, "t\x01b" + one + "\x01a" + one, "t\x02ab" + one + "\x01a" + one, "t\x01b" + one + "\x02aa" + one,
		"t\x01a" + one + "\x01c" + one + "\x01b" + one, "t\x01a" + one + "\x01B" + one,
		"c" + one + "\x05" + strings.Repeat(one, 5), "c" + one + "\x06" + strings.Repeat(one, 6) + "message", "c" + one + "\x08" + strings.Repeat(one, 8),
		"t\xfa" + strings.Repeat("a", 250) + one,
	} {
		wantParseFault(t, api.ErrForm, []byte(b))
	}
	for _, o := range wrong() {
		wantAsPlain(t, plainBytes(o))
	}
}

// Each byte of right bytes is put anew with each value, taken out, and doubled.
func TestParseOfChangedBytes(t *testing.T) {
	for _, o := range some() {
		b := mustBytes(t, o)
		if len(b) > 110 {
			b = slices.Concat(b[:80], b[len(b)-20:])
		}
		for k := range b {
			for c := range 256 {
				other := bytes.Clone(b)
				other[k] = byte(c)
				wantAsPlain(t, other)
			}
			wantAsPlain(t, slices.Delete(bytes.Clone(b), k, k+1))
			wantAsPlain(t, slices.Insert(bytes.Clone(b), k, b[k]))
		}
		for n := range 301 - len(b) {
			wantAsPlain(t, append(bytes.Clone(b), make([]byte, n)...))
		}
	}
}

func TestParseOfEachShortText(t *testing.T) {
	const letters = "btcg\x00\x01a/"
	list := []string{""}
	for from, n := 0, 0; n < 5; n++ {
		to := len(list)
		for _, s := range list[from:to] {
			for k := range len(letters) {
				list = append(list, s+letters[k:k+1])
			}
		}
		from = to
	}
	for _, s := range list {
		wantAsPlain(t, []byte(s))
	}
}

func TestParseOfAnyBytes(t *testing.T) {
	c := &chance{2}
	objects := 0
	for range 50000 {
		b := c.bytes(1 + c.below(303))
		b[0] = "btcg"[c.below(4)]
		if b[0] == 'c' && len(b) > 33 {
			b[33] = byte(c.below(10))
		}
		for at := 1; b[0] == 't' && at < len(b); at += 33 + int(b[at]) {
			b[at] = byte(c.below(4))
			for k := range min(int(b[at]), len(b)-at-1) {
				b[at+1+k] = byte(at + c.below(2)) // mostly rising
			}
		}
		wantAsPlain(t, b)
		o, err := Parse(b)
		if err != nil {
			continue
		}
		objects++
		if again, err := Bytes(o); err != nil || !bytes.Equal(again, b) {
			t.Fatalf("the bytes of what is parsed of %q: %q, %v", b, again, err)
		}
	}
	if objects < 10000 {
		t.Errorf("%d of the bytes were objects", objects)
	}
}

// No two right objects have the same bytes, and no two texts are parsed as the same object.
func TestEachObjectHasOneText(t *testing.T) {
	c := &chance{3}
	objects := some()
	for range 3000 {
		if o := c.object(); plainRight(o) {
			objects = append(objects, o)
		}
	}
	byText := map[string]Object{}
	for _, o := range objects {
		b := mustBytes(t, o)
		if other, has := byText[string(b)]; has && !plainSame(o, other) {
			t.Fatalf("%v and %v have the same bytes", o, other)
		}
		byText[string(b)] = o
		if got, err := Parse(b); err != nil || !plainSame(got, o) {
			t.Fatalf("Parse of %q: %v, %v, not %v", b, got, err, o)
		}
	}
}

func TestId(t *testing.T) {
	o := Id([]byte("bx"))
	if got := hex.EncodeToString(o[:]); got != "3ff1726cd4437f1f30e268f95c9e56d7d77ddbaa40ef94d7fb376882e9c32ada" {
		t.Errorf("Id of bx: %s", got)
	}
	c := &chance{4}
	for n := range 400 { // bytes that are no object's have one too
		if b := c.bytes(n); Id(b) != sha256.Sum256(b) {
			t.Errorf("Id of %d bytes is wrong", n)
		}
	}
	if Id(nil) != sha256.Sum256(nil) {
		t.Error("Id of no bytes is wrong")
	}
	for _, o := range some() {
		if b := mustBytes(t, o); Id(b) != sha256.Sum256(plainBytes(o)) {
			t.Errorf("Id of %v is wrong", o)
		}
	}
}

func TestLinks(t *testing.T) {
	one, two, three, four := id(1), id(2), id(3), id(4)
	entries := []Entry{{"a", two}, {"b", one}, {"c", two}}
	cases := []struct {
		what string
		o    Object
		want []api.Oid
	}{
		{"nothing", Object{}, nil},
		{"a blob", Object{Kind: Blob, Text: []byte("x")}, nil},
		{"an empty tree", Object{Kind: Tree}, nil},
		{"a tree", Object{Kind: Tree, Entries: entries}, []api.Oid{two, one, two}},
		{"a commit", Object{Kind: Commit, Target: three}, []api.Oid{three}},
		{"a commit of noughts", Object{Kind: Commit}, []api.Oid{{}}},
		{"a commit with parents", Object{Kind: Commit, Target: three, Parents: []api.Oid{two, one, two, three}}, []api.Oid{three, two, one, two, three}},
		{"a tag", Object{Kind: Tag, Target: four}, []api.Oid{four}},
		{"a tag of noughts", Object{Kind: Tag}, []api.Oid{{}}},
		{"a tree with names falling", Object{Kind: Tree, Entries: []Entry{{"b/", four}, {"", one}}}, []api.Oid{four, one}},
		{"a commit with 6 parents", Object{Kind: Commit, Target: four, Parents: ids(6)}, append([]api.Oid{four}, ids(6)...)},
		{"a commit with all", Object{Kind: Commit, Entries: entries, Target: three, Parents: ids(2)}, []api.Oid{two, one, two, three, one, two}},
		{"a tag with all", Object{Kind: Tag, Entries: entries, Target: three, Parents: ids(2)}, []api.Oid{two, one, two, three, one, two}},
		{"a tree with all", Object{Kind: Tree, Entries: entries, Target: three, Parents: ids(2)}, []api.Oid{two, one, two, one, two}},
		{"a blob with all", Object{Kind: Blob, Entries: entries, Target: three, Parents: ids(2)}, []api.Oid{two, one, two, one, two}},
		{"a blob of 400 bytes with a parent", Object{Kind: Blob, Text: make([]byte, 400), Parents: ids(1)}, []api.Oid{one}},
		{"kind 9 with all", Object{Kind: 9, Entries: entries, Target: three, Parents: ids(2)}, []api.Oid{two, one, two, one, two}},
	}
	for _, c := range cases {
		if got := Links(c.o); !slices.Equal(got, c.want) {
			t.Errorf("Links of %s: %x, not %x", c.what, got, c.want)
		}
	}
}

func TestSame(t *testing.T) {
	full := func() Object {
		return Object{Kind: Commit, Text: []byte("text"), Entries: rising(1, 2), Target: id(1), Parents: ids(2)}
	}
	others := map[string]func(o *Object){
		"kind":                  func(o *Object) { o.Kind = Tag },
		"text's byte":           func(o *Object) { o.Text[3] = 'T' },
		"text's length":         func(o *Object) { o.Text = o.Text[:3] },
		"longer text":           func(o *Object) { o.Text = append(o.Text, 0) },
		"no text":               func(o *Object) { o.Text = nil },
		"an entry's name":       func(o *Object) { o.Entries[1].Name = "bc" },
		"an entry's id":         func(o *Object) { o.Entries[1].Id[31]++ },
		"the entries' order":    func(o *Object) { slices.Reverse(o.Entries) },
		"the entries' number":   func(o *Object) { o.Entries = o.Entries[:1] },
		"no entries":            func(o *Object) { o.Entries = nil },
		"the target":            func(o *Object) { o.Target[31]++ },
		"the target's noughts":  func(o *Object) { o.Target = api.Oid{} },
		"a parent":              func(o *Object) { o.Parents[0][0]++ },
		"the parents' order":    func(o *Object) { slices.Reverse(o.Parents) },
		"the parents' number":   func(o *Object) { o.Parents = append(o.Parents, id(1)) },
		"no parents":            func(o *Object) { o.Parents = nil },
		"a name and an id more": func(o *Object) { o.Entries = append(o.Entries, o.Entries[1]) },
	}
	if !Same(full(), full()) {
		t.Error("an object isn't the same as itself")
	}
	for what, change := range others {
		o := full()
		change(&o)
		if Same(o, full()) || Same(full(), o) {
			t.Errorf("%s is another, and they are the same", what)
		}
		if !Same(o, o) {
			t.Errorf("%s is another, and it isn't the same as itself", what)
		}
	}
	none := Object{Kind: Blob, Text: []byte{}, Entries: []Entry{}, Parents: []api.Oid{}}
	if !Same(none, Object{Kind: Blob}) || !Same(Object{Kind: Blob}, none) || !Same(Object{}, Object{}) {
		t.Error("empty lists aren't the same as none")
	}
	if Same(Object{}, Object{Kind: -1}) || Same(Object{}, Object{Text: []byte{0}}) {
		t.Error("objects that aren't right aren't told apart")
	}
}

func TestSameOfEachPair(t *testing.T) {
	c := &chance{5}
	list := some()
	for range 300 {
		list = append(list, c.object())
	}
	for _, a := range list {
		for _, b := range list {
			if Same(a, b) != Same(b, a) || Same(a, b) != plainSame(a, b) {
				t.Fatalf("Same of %v and %v: %v", a, b, Same(a, b))
			}
		}
	}
}

func TestWanted(t *testing.T) {
	for kind := -10; kind < 300; kind++ {
		want := 0
		if kind == 3 {
			want = 2
		}
		if got := Wanted(kind); got != want {
			t.Errorf("Wanted of %d: %d, not %d", kind, got, want)
		}
	}
	if Wanted(math.MaxInt) != 0 || Wanted(math.MinInt) != 0 {
		t.Error("Wanted of what is no kind")
	}
}

// deep is an object apart, with the room behind its lists.
func deep(o Object) Object {
	o.Text = bytes.Clone(o.Text[:cap(o.Text)])
	o.Entries = slices.Clone(o.Entries[:cap(o.Entries)])
	o.Parents = slices.Clone(o.Parents[:cap(o.Parents)])
	return o
}

// roomy is an object whose lists have room behind them, with something in it.
func roomy(o Object) Object {
	o.Text = append(bytes.Clone(o.Text), "room"...)[:len(o.Text)]
	o.Entries = append(slices.Clone(o.Entries), rising(1, 2, 3)...)[:len(o.Entries)]
	o.Parents = append(slices.Clone(o.Parents), ids(3)...)[:len(o.Parents)]
	return o
}

func TestNothingThatIsGivenIsChanged(t *testing.T) {
	for _, plain := range append(some(), slices.Collect(maps.Values(wrong()))...) {
		o := roomy(plain)
		before := deep(o)
		Right(o)
		Bytes(o)
		list := Links(o)
		Same(o, plain)
		clear(list)
		_ = append(list, id(9), id(9), id(9))
		if b, err := Bytes(o); err == nil {
			clear(b)
			_ = append(b, "more and more"...)
		}
		if !plainSame(deep(o), before) {
			t.Fatalf("%v was changed", plain)
		}
	}
}

func TestParseSharesNothing(t *testing.T) {
	for _, want := range some() {
		room := append(mustBytes(t, want), "the room behind"...)
		before := bytes.Clone(room)
		b := room[:len(room)-15]
		first, err := Parse(b)
		second, _ := Parse(b)
		if err != nil || !bytes.Equal(room, before) {
			t.Fatalf("Parse of %q: %v, or its bytes were changed", b, err)
		}
		clear(room)
		if !plainSame(first, want) {
			t.Fatalf("writing over the bytes changed %v", want)
		}
		clear(first.Text)
		_ = append(first.Text, "more and more"...)
		clear(first.Entries)
		_ = append(first.Entries, Entry{}, Entry{})
		clear(first.Parents)
		_ = append(first.Parents, api.Oid{}, api.Oid{})
		if !plainSame(second, want) {
			t.Fatalf("writing over one answer changed the other one: %v", want)
		}
	}
}
