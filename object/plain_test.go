package object

import (
	"bytes"
	"fmt"
	"regexp"
	"slices"
	"testing"

	"cartage/api"
)

// What the chapter tells of a tree's names: bytes from 33 to 126, but no /.
var nameForm = regexp.MustCompile(`\A[\x21-\x2e\x30-\x7e]{1,12}\z`)

// plainRight goes by the chapter's words, kind by kind.
func plainRight(o Object) bool {
	texts, entries, parents := len(o.Text), len(o.Entries), len(o.Parents)
	none := o.Target == api.Oid{}
	switch o.Kind {
	case 1:
		return entries == 0 && parents == 0 && none && 1+texts <= 300
	case 2:
		size := 1
		var names []string
		for _, e := range o.Entries {
			if !nameForm.MatchString(e.Name) {
				return false
			}
			names = append(names, e.Name)
			size += 1 + len(e.Name) + 32
		}
		rising := slices.Compact(slices.Sorted(slices.Values(names)))
		return texts == 0 && parents == 0 && none && slices.Equal(names, rising) && entries <= 8 && size <= 300
	case 3:
		return entries == 0 && parents <= 4 && 1+32+1+32*parents+texts <= 300
	case 4:
		return entries == 0 && parents == 0 && 1+32+texts <= 300
	}
	return false
}

// plainBytes is a right object's bytes.
func plainBytes(o Object) []byte {
	switch o.Kind {
	case 1:
		return slices.Concat([]byte("b"), o.Text)
	case 2:
		all := []byte("t")
		for _, e := range o.Entries {
			all = slices.Concat(all, []byte{byte(len(e.Name))}, []byte(e.Name), e.Id[:])
		}
		return all
	case 3:
		all := slices.Concat([]byte("c"), o.Target[:], []byte{byte(len(o.Parents))})
		for _, p := range o.Parents {
			all = slices.Concat(all, p[:])
		}
		return slices.Concat(all, o.Text)
	}
	return slices.Concat([]byte("g"), o.Target[:], o.Text)
}

// plainLinks is the ids that any object names.
func plainLinks(o Object) []api.Oid {
	var list []api.Oid
	for _, e := range o.Entries {
		list = append(list, e.Id)
	}
	if o.Kind == 3 || o.Kind == 4 {
		list = append(list, o.Target)
	}
	for _, p := range o.Parents {
		list = append(list, p)
	}
	return list
}

// plainParse reads with an index of its own, and asks what is wrong in the chapter's order.
func plainParse(b []byte) (Object, error) {
	if len(b) > 300 {
		return Object{}, api.ErrLarge
	}
	if len(b) == 0 {
		return Object{}, api.ErrShort
	}
	at, short := 1, false
	cut := func(n int) []byte {
		if at+n > len(b) {
			at, short = len(b), true
			return make([]byte, n)
		}
		at += n
		return b[at-n : at]
	}
	o := Object{}
	switch b[0] {
	case 'b':
		o.Kind, o.Text = 1, b[1:]
	case 't':
		o.Kind = 2
		for at < len(b) {
			name := cut(int(cut(1)[0]))
			o.Entries = append(o.Entries, Entry{string(name), api.Oid(cut(32))})
		}
	case 'c':
		o.Kind, o.Target = 3, api.Oid(cut(32))
		for range cut(1)[0] {
			o.Parents = append(o.Parents, api.Oid(cut(32)))
		}
		o.Text = b[at:]
	case 'g':
		o.Kind, o.Target = 4, api.Oid(cut(32))
		o.Text = b[at:]
	default:
		return Object{}, api.ErrKind
	}
	if short {
		return Object{}, api.ErrShort
	}
	if !plainRight(o) {
		return Object{}, api.ErrForm
	}
	return o, nil
}

// plainSame goes by what an object looks like when it is written out.
func plainSame(a, b Object) bool {
	told := func(o Object) string {
		return fmt.Sprintf("%d %x %q %x %x", o.Kind, o.Text, fmt.Sprint(o.Entries), o.Target, o.Parents)
	}
	return told(a) == told(b)
}

// chance is numbers that are the same ones each time.
type chance struct{ x uint64 }

func (c *chance) below(n int) int {
	c.x = c.x*6364136223846793005 + 1442695040888963407
	return int((c.x >> 20) % uint64(n))
}

func (c *chance) bytes(n int) []byte {
	b := make([]byte, n)
	for k := range b {
		b[k] = byte(c.below(256))
	}
	return b
}

// id is one of few, so that ids come again; id 0 is the noughts.
func (c *chance) id() api.Oid { return id(c.below(6)) }

func (c *chance) ids(n int) []api.Oid {
	var list []api.Oid
	for range n {
		list = append(list, c.id())
	}
	return list
}

func (c *chance) entries(n int) []Entry {
	var list []Entry
	for range n {
		name := make([]byte, 1+c.below(12))
		for k := range name {
			name[k] = byte("!.0azAZ~"[c.below(8)])
		}
		list = append(list, Entry{string(name), c.id()})
	}
	slices.SortFunc(list, func(a, b Entry) int { return bytes.Compare([]byte(a.Name), []byte(b.Name)) })
	return list
}

// object is mostly a right one: of each kind, of each size, and now and then with what isn't of its kind.
func (c *chance) object() Object {
	o := Object{Kind: 1 + c.below(4)}
	text := c.bytes(c.below([]int{1, 4, 140, 310}[c.below(4)]))
	switch o.Kind {
	case Blob:
		o.Text = text
	case Tree:
		o.Entries = c.entries(c.below(10))
	case Commit:
		o.Text, o.Target, o.Parents = text, c.id(), c.ids(c.below(6))
	case Tag:
		o.Text, o.Target = text, c.id()
	}
	switch c.below(20) {
	case 0:
		o.Text = text
	case 1:
		o.Entries = c.entries(c.below(3))
	case 2:
		o.Target = c.id()
	case 3:
		o.Parents = c.ids(c.below(3))
	case 4:
		o.Kind = c.below(7) - 1
	case 5:
		slices.Reverse(o.Entries)
	}
	return o
}

// id is an id whose bytes are all different ones.
func id(n int) api.Oid {
	var o api.Oid
	for k := range o {
		o[k] = byte(n * (k + 17))
	}
	return o
}

func ids(n int) []api.Oid {
	var list []api.Oid
	for k := range n {
		list = append(list, id(k+1))
	}
	return list
}

// rising is entries with names of these lengths, each above the one ahead.
func rising(lengths ...int) []Entry {
	var list []Entry
	for k, n := range lengths {
		name := bytes.Repeat([]byte{byte('a' + k)}, n)
		list = append(list, Entry{string(name), id(k + 1)})
	}
	return list
}

// mustBytes is a right object's bytes.
func mustBytes(t *testing.T, o Object) []byte {
	t.Helper()
	b, err := Bytes(o)
	if err != nil {
		t.Fatalf("Bytes of %v: %v", o, err)
	}
	return b
}
