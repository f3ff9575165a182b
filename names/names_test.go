package names

import (
	"math"
	"regexp"
	"slices"
	"strings"
	"testing"
)

// What the chapter tells of names, but for their lengths (and for parts that are all dots).
var (
	repoForm = regexp.MustCompile(`\A[a-z]([a-z0-9-]*[a-z0-9])?\z`)
	refForm  = regexp.MustCompile(`\A[a-z0-9.-]+(/[a-z0-9.-]+)+\z`)
	dotsForm = regexp.MustCompile(`(\A|/)\.+(/|\z)`)
)

func rightRepo(s string) bool { return len(s) <= 12 && repoForm.MatchString(s) }

func rightRef(s string) bool {
	return len(s) <= 24 && refForm.MatchString(s) && !dotsForm.MatchString(s)
}

// texts is all texts of at most so many of these bytes.
func texts(bytes string, most int) []string {
	list := []string{""}
	for from, n := 0, 0; n < most; n++ {
		to := len(list)
		for _, s := range list[from:to] {
			for k := range len(bytes) {
				list = append(list, s+bytes[k:k+1])
			}
		}
		from = to
	}
	return list
}

func TestRepo(t *testing.T) {
	right := []string{"a", "z", "ab", "a0", "z9", "a-b", "a--b", "a-0", "abcdefghijkl", "a-----------"[:11] + "b", "a1234567890b"}
	for _, s := range right {
		if !Repo(s) {
			t.Errorf("%q is no repository's name", s)
		}
	}
	wrong := []string{
		"", "-", "--", "0", "9", "0a", "-a", "a-", "a0-", "a-b-", "A", "aB", "Ab", "a.b", ".", "a.", "a_b", "a/b", "/", "a/", "/a",
		" a", "a ", "a b", "a\n", "\na", "a\x00", "\x00", "abcdefghijklm", "abcdefghijk-", strings.Repeat("a", 100000),
		"é", "aé", "a\xff", "\xffa", "a\u0131b", "\u0430", "a\uff10", "refs/heads/x",
	}
	for _, s := range wrong {
		if Repo(s) {
			t.Errorf("%q is a repository's name", s)
		}
	}
}

func TestRepoOfEachByte(t *testing.T) {
	for c := range 256 {
		b := string([]byte{byte(c)})
		for _, s := range []string{b, b + "a", "a" + b, "a" + b + "a", "a-" + b, "abcdefghijk" + b, "abcdefghij" + b + "l"} {
			if Repo(s) != rightRepo(s) {
				t.Errorf("Repo of %q: %v", s, Repo(s))
			}
		}
	}
}

func TestRepoOfEachShortText(t *testing.T) {
	for _, s := range texts("az09-./A", 5) {
		if Repo(s) != rightRepo(s) {
			t.Fatalf("Repo of %q: %v", s, Repo(s))
		}
	}
}

func TestRepoOfEachLength(t *testing.T) {
	for n := range 300 {
		if s := strings.Repeat("a", n); Repo(s) != (n >= 1 && n <= 12) {
			t.Errorf("Repo of %d letters: %v", n, Repo(s))
		}
	}
	if Repo(strings.Repeat("é", 7)) || Repo("a"+strings.Repeat("é", 5)) {
		t.Error("bytes are counted, and runes aren't letters")
	}
}

func TestRef(t *testing.T) {
	right := []string{
		"refs/heads/x", "a/b", "0/0", "-/-", "a/-", "-/9", "a.b/c", ".a/b", "a./b", "..a/b", "a../..b", "a..b/c", ".-/-.", "a/b/c/d/e/f",
		"a/bcdefghijklmnopqrstuvw", "abcdefghijklmnopqrstuv/w", "a/b/c/d/e/f/g/h/i/j/k/lm",
	}
	for _, s := range right {
		if !Ref(s) {
			t.Errorf("%q is no ref's name", s)
		}
	}
	wrong := []string{
		"", "x", "refs", "abc-1.2", "/", "//", "a/", "/a", "a//b", "/a/b", "a/b/", "a/b//", ".", "..", "./a", "a/.", "../a", "a/..", "a/.../b",
		"a/./b", "./.", "A/b", "a/B", "refs/heads/X", "a/b c", "a/b\n", "\na/b", "a/b\x00", "a_/b", "a/_", "a\\b", "a/*", "a/~", "a:b/c",
		"a/é", "é/a", "a/\xff", "a\xff/b", "a/\uff0e", "a\u2215b", "a/bcdefghijklmnopqrstuvwx", "a/b/c/d/e/f/g/h/i/j/k/l/m",
		"a/" + strings.Repeat("b", 100000), strings.Repeat("a/", 100000) + "b",
	}
	for _, s := range wrong {
		if Ref(s) {
			t.Errorf("%q is a ref's name", s)
		}
	}
}

func TestRefOfEachByte(t *testing.T) {
	for c := range 256 {
		b := string([]byte{byte(c)})
		for _, s := range []string{b, b + "/a", "a/" + b, "a/" + b + "a", "a" + b + "/a", "a/" + b + "/a", "a" + b + "a", "refs/heads/abcdefghijkl" + b} {
			if Ref(s) != rightRef(s) {
				t.Errorf("Ref of %q: %v", s, Ref(s))
			}
		}
	}
}

func TestRefOfEachShortText(t *testing.T) {
	for _, s := range append(texts("a0-./A", 6), texts("a./", 9)...) {
		if Ref(s) != rightRef(s) {
			t.Fatalf("Ref of %q: %v", s, Ref(s))
		}
	}
}

func TestRefOfEachLength(t *testing.T) {
	for n := range 300 {
		if s := "a/" + strings.Repeat("b", n); Ref(s) != (n >= 1 && n <= 22) {
			t.Errorf("Ref of %d bytes: %v", len(s), Ref(s))
		}
		if s := strings.Repeat("b", n) + "/a"; Ref(s) != (n >= 1 && n <= 22) {
			t.Errorf("Ref of %d bytes, its last part short: %v", len(s), Ref(s))
		}
		if s := strings.Repeat("b", n); Ref(s) {
			t.Errorf("a ref's name of one part of %d bytes", n)
		}
	}
	if Ref("a/" + strings.Repeat("é", 11)) {
		t.Error("runes are letters")
	}
}

func TestParts(t *testing.T) {
	cases := []struct {
		s     string
		parts []string
	}{
		{"", []string{""}},
		{"a", []string{"a"}},
		{"/", []string{"", ""}},
		{"//", []string{"", "", ""}},
		{"a/", []string{"a", ""}},
		{"/a", []string{"", "a"}},
		{"a//b", []string{"a", "", "b"}},
		{"refs/heads/x", []string{"refs", "heads", "x"}},
		{"A b/.\n/\xff\\é", []string{"A b", ".\n", "\xff\\é"}},
		{strings.Repeat("/", 3000), make([]string, 3001)},
	}
	for _, c := range cases {
		if got := Parts(c.s); !slices.Equal(got, c.parts) {
			t.Errorf("Parts of %q: %q", c.s, got)
		}
	}
}

func TestPartsOfEachShortText(t *testing.T) {
	for _, s := range texts("ab./\xff", 6) {
		got := Parts(s)
		if strings.Join(got, "/") != s || len(got) != 1+strings.Count(s, "/") {
			t.Fatalf("Parts of %q: %q", s, got)
		}
	}
}

func TestPartsAreTheCallers(t *testing.T) {
	s := "refs/heads/x"
	first := Parts(s)
	_ = append(first[:1], "more", "and more")
	clear(first)
	if s != "refs/heads/x" || !slices.Equal(Parts(s), []string{"refs", "heads", "x"}) {
		t.Error("writing over the parts changed something else")
	}
}

func TestUnder(t *testing.T) {
	cases := []struct {
		s, prefix string
		is        bool
	}{
		{"refs/heads", "refs/heads", true},
		{"refs/heads/x", "refs/heads", true},
		{"refs/heads/x/y", "refs/heads", true},
		{"refs/heads/x", "refs", true},
		{"refs/headsx", "refs/heads", false},
		{"refs/heads.x", "refs/heads", false},
		{"refs/heads-x/y", "refs/heads", false},
		{"refs/head", "refs/heads", false},
		{"refs", "refs/heads", false},
		{"refs/tags/x", "refs/heads", false},
		{"x/refs/heads", "refs/heads", false},
		{"refs/heads/", "refs/heads", false}, // nothing more
		{"refs/heads//", "refs/heads", true},
		{"refs/heads/", "refs/heads/", true},
		{"refs/heads/x", "refs/heads/", false}, // no / behind the prefix
		{"refs/heads//x", "refs/heads/", true},
		{"", "", true},
		{"a", "", false},
		{"/", "", false}, // nothing more
		{"/a", "", true},
		{"//", "", true},
		{"a/b", "", false},
		{"", "a", false},
		{"", "/", false},
		{"/", "/", true},
		{"//", "/", false}, // nothing more
		{"//a", "/", true},
		{"/a", "/", false},
		{"A/b", "a", false},
		{"a\\b", "a", false},
		{"\xff/\xfe", "\xff", true},
		{"\xc3\xa9", "\xc3", false},
	}
	for _, c := range cases {
		if got := Under(c.s, c.prefix); got != c.is {
			t.Errorf("Under of %q and %q: %v", c.s, c.prefix, got)
		}
	}
}

func TestUnderOfEachPairOfShortTexts(t *testing.T) {
	all := texts("ab/", 4)
	for _, prefix := range all {
		is := map[string]bool{prefix: true}
		for _, more := range all[1:] {
			is[prefix+"/"+more] = true
		}
		for _, s := range all {
			if Under(s, prefix) != is[s] {
				t.Fatalf("Under of %q and %q: %v", s, prefix, !is[s])
			}
		}
	}
}

func TestSort(t *testing.T) {
	cases := []struct{ list, rising []string }{
		{[]string{"b", "a"}, []string{"a", "b"}},
		{[]string{"b", "a", "b", "a", "b"}, []string{"a", "b"}},
		{[]string{"a", "a", "a"}, []string{"a"}},
		{[]string{"", "a", ""}, []string{"", "a"}},
		{[]string{"ab", "abc", "a", "b", ""}, []string{"", "a", "ab", "abc", "b"}},
		{[]string{"a", "B", "A", "b"}, []string{"A", "B", "a", "b"}},
		{[]string{"10", "9", "1"}, []string{"1", "10", "9"}},
		{[]string{"a/b", "a-b", "a.b", "a", "a0"}, []string{"a", "a-b", "a.b", "a/b", "a0"}},
		{[]string{"\xff", "é", "z", "\x00", "\uffff", "\U00010000"}, []string{"\x00", "z", "é", "\uffff", "\U00010000", "\xff"}},
		{[]string{"\xff\x01", "\xff", "\xfe", "\xff"}, []string{"\xfe", "\xff", "\xff\x01"}},
		{[]string{"one"}, []string{"one"}},
	}
	for _, c := range cases {
		if got := Sort(c.list); !slices.Equal(got, c.rising) {
			t.Errorf("Sort of %q: %q", c.list, got)
		}
	}
	if len(Sort(nil)) != 0 || len(Sort([]string{})) != 0 {
		t.Error("Sort of none has some")
	}
}

// mixed is n texts in no order, some of them twice and more often.
func mixed(n int) []string {
	list := make([]string, n)
	x := uint32(n)
	for k := range list {
		x = x*1664525 + 1013904223
		list[k] = strings.Repeat(string([]byte{byte(x >> 24)}), int(x>>16%3))
	}
	return list
}

func TestSortOfMany(t *testing.T) {
	list := mixed(2000)
	before := slices.Clone(list)
	got := Sort(list)
	if !slices.Equal(list, before) {
		t.Error("Sort changed what it was given")
	}
	in := map[string]bool{}
	for _, s := range list {
		in[s] = true
	}
	if len(got) != len(in) {
		t.Errorf("%d texts, not %d", len(got), len(in))
	}
	for k, s := range got {
		if !in[s] || k > 0 && got[k-1] >= s {
			t.Errorf("%q at %d is a strange one, or isn't above the one ahead", s, k)
		}
	}
	if !slices.Equal(Sort(got), got) {
		t.Error("what is sorted is sorted otherwise")
	}
}

func TestSortSharesNothing(t *testing.T) {
	for _, room := range [][]string{{"a", "b", "c", "d", "e"}, {"e", "d", "d", "b", "a"}} {
		before := slices.Clone(room)
		for n := range 6 {
			got := Sort(room[:n])
			for k := range got {
				got[k] = "another one"
			}
			_ = append(got, "more", "more", "more")
			if !slices.Equal(room, before) {
				t.Fatalf("writing over Sort's answer of %d changed what it was given", n)
			}
		}
	}
}

func TestShorten(t *testing.T) {
	cases := []struct {
		s     string
		most  int
		short string
	}{
		{"abcdef", 7, "abcdef"},
		{"abcdef", 6, "abcdef"},
		{"abcdef", 5, "abc.."},
		{"abcdef", 4, "ab.."},
		{"abcdef", 3, "a.."},
		{"abcdef", 2, "ab"},
		{"abcdef", 1, "a"},
		{"abcdef", 0, ""},
		{"abcdef", -1, ""},
		{"abcdef", math.MinInt, ""},
		{"abcdef", math.MaxInt, "abcdef"},
		{"abcd", 3, "a.."},
		{"abc", 3, "abc"},
		{"abc", 2, "ab"},
		{"ab", 2, "ab"},
		{"ab", 1, "a"},
		{"a", 1, "a"},
		{"a", 0, ""},
		{"a", -5, ""},
		{"", 0, ""},
		{"", 1, ""},
		{"", -1, ""},
		{"", math.MinInt, ""},
		{"éé", 3, "\xc3.."}, // by bytes, not by runes
		{"éé", 1, "\xc3"},
		{"\xff\xfe\xfd\xfc", 3, "\xff.."},
		{"....", 3, "..."},
	}
	for _, c := range cases {
		if got := Shorten(c.s, c.most); got != c.short {
			t.Errorf("Shorten of %q to %d: %q", c.s, c.most, got)
		}
	}
}

func TestShortenOfEachLength(t *testing.T) {
	long := "the quick brown fox jumps over the lazy dog, and goes home"
	for n := range len(long) + 1 {
		s := long[:n]
		for most := -3; most < n+3; most++ {
			got := Shorten(s, most)
			if len(got) != max(0, min(n, most)) {
				t.Fatalf("Shorten of %d bytes to %d: %d bytes", n, most, len(got))
			}
			head := len(got)
			if n > most && most >= 3 {
				head -= 2
			}
			if got[:head] != s[:head] || head < len(got) && got[head:] != ".." {
				t.Fatalf("Shorten of %q to %d: %q", s, most, got)
			}
		}
	}
}
