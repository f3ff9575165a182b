package entry

import (
	"bytes"
	"encoding/binary"
	"fmt"
	"regexp"
	"slices"
	"strings"
	"testing"

	"cartage/api"
	"cartage/object"
)

// What layer 3 tells of a ref's name, but for its length.
var refForm = regexp.MustCompile(`\A\.*[a-z0-9-][a-z0-9.-]*(/\.*[a-z0-9-][a-z0-9.-]*)+\z`)

func plainUpdates(list []api.Update) bool {
	for k, u := range list {
		if len(u.Ref) > 24 || !refForm.MatchString(u.Ref) || u.Old == u.New {
			return false
		}
		for _, other := range list[:k] {
			if other.Ref == u.Ref {
				return false
			}
		}
	}
	return len(list) >= 1 && len(list) <= 8
}

// plainFormed goes by the chapter's words, but for the length.
func plainFormed(e Entry) bool {
	if e.Client < 0 || e.Client > 7 || e.Number < 1 || e.Number > 1<<40 || e.Answer < 0 || e.Answer > 10 {
		return false
	}
	if e.Answer != 0 {
		return len(e.Updates)+len(e.Objects) == 0
	}
	for k, text := range e.Objects {
		o, err := object.Parse(text)
		if err != nil || !object.Right(o) {
			return false
		}
		for _, other := range e.Objects[:k] {
			if string(other) == string(text) {
				return false
			}
		}
	}
	return plainUpdates(e.Updates) && len(e.Objects) <= 64
}

// plainSize counts an entry's bytes without any.
func plainSize(e Entry) int {
	n := 12
	for _, u := range e.Updates {
		n += 66 + len(u.Ref)
	}
	for _, text := range e.Objects {
		n += 2 + len(text)
	}
	return n
}

// plainBytes is the bytes of any entry whose numbers have so many, right or not.
func plainBytes(e Entry) []byte {
	text := func(b, s []byte) []byte {
		return append(binary.BigEndian.AppendUint16(b, uint16(len(s))), s...)
	}
	b := binary.BigEndian.AppendUint64([]byte{byte(e.Client)}, uint64(e.Number))
	b = append(b, byte(e.Answer), byte(len(e.Updates)))
	for _, u := range e.Updates {
		b = slices.Concat(text(b, []byte(u.Ref)), u.Old[:], u.New[:])
	}
	b = append(b, byte(len(e.Objects)))
	for _, s := range e.Objects {
		b = text(b, s)
	}
	return b
}

// plainParse cuts with a rest of its own, and asks what is wrong in the chapter's order.
func plainParse(b []byte) (Entry, error) {
	if len(b) > 2800 {
		return Entry{}, api.ErrLarge
	}
	var fault error
	cut := func(n int) []byte {
		if fault == nil && n > len(b) {
			fault = api.ErrShort
		}
		if fault != nil {
			return make([]byte, n)
		}
		out := b[:n]
		b = b[n:]
		return out
	}
	text := func() []byte { return cut(int(binary.BigEndian.Uint16(cut(2)))) }
	e := Entry{Client: int(cut(1)[0])}
	number := binary.BigEndian.Uint64(cut(8))
	if fault == nil && number >= 1<<62 {
		fault = api.ErrRange
	}
	e.Number = int(number)
	e.Answer = int(cut(1)[0])
	for range cut(1)[0] {
		ref := string(text())
		e.Updates = append(e.Updates, api.Update{Ref: ref, Old: api.Oid(cut(32)), New: api.Oid(cut(32))})
	}
	for range cut(1)[0] {
		e.Objects = append(e.Objects, text())
	}
	if fault == nil && len(b) > 0 {
		fault = api.ErrLong
	}
	if fault == nil && !plainFormed(e) {
		fault = api.ErrForm
	}
	if fault != nil {
		return Entry{}, fault
	}
	return e, nil
}

// plainSame goes by what an entry looks like when it is written out.
func plainSame(a, b Entry) bool {
	told := func(e Entry) string {
		s := fmt.Sprintf("%d %d %d %d %d", e.Client, e.Number, e.Answer, len(e.Updates), len(e.Objects))
		for _, u := range e.Updates {
			s += fmt.Sprintf(" %q %x %x", u.Ref, u.Old, u.New)
		}
		for _, text := range e.Objects {
			s += fmt.Sprintf(" %q", text)
		}
		return s
	}
	return told(a) == told(b)
}

// id is an id whose bytes are all different ones; id 0 is the noughts.
func id(n int) api.Oid {
	var o api.Oid
	for k := range o {
		o[k] = byte(n * (k + 17))
	}
	return o
}

// update makes a ref anew.
func update(ref string) api.Update { return api.Update{Ref: ref, New: id(1)} }

// updates is so many of them, whose refs have as many bytes each.
func updates(n, bytes int) []api.Update {
	var list []api.Update
	for k := range n {
		list = append(list, update("r/"+strings.Repeat(string(rune('a'+k)), bytes-2)))
	}
	return list
}

func blob(s string) []byte { return []byte("b" + s) }

// blobs is so many objects of that size, each another one.
func blobs(n, size int) [][]byte {
	var list [][]byte
	for k := range n {
		text := bytes.Repeat([]byte{byte(k)}, size)
		text[0] = 'b'
		list = append(list, text)
	}
	return list
}

// filled is an entry that has some more objects, and just so many bytes with them.
func filled(t *testing.T, e Entry, size int) Entry {
	t.Helper()
	e = Copy(e)
	for k := 0; plainSize(e) < size; k++ {
		more := min(size-plainSize(e)-2, 300)
		if left := size - plainSize(e) - 2 - more; left > 0 && left < 5 {
			more -= 5 // what is left behind it must be an object, too
		}
		text := append([]byte("b"), bytes.Repeat([]byte{byte('A' + k)}, more-1)...)
		e.Objects = append(e.Objects, text)
	}
	if got := len(plainBytes(e)); got != size || plainSize(e) != size {
		t.Fatalf("%d bytes, not %d", got, size)
	}
	return e
}

// mustObject is a right object's bytes.
func mustObject(o object.Object) []byte {
	b, err := object.Bytes(o)
	if err != nil {
		panic(err)
	}
	return b
}

// chance is numbers that are the same ones each time.
type chance struct{ x uint64 }

func (c *chance) below(n int) int {
	c.x = c.x*6364136223846793005 + 1442695040888963407
	return int((c.x >> 20) % uint64(n))
}

func (c *chance) bytes(n int) []byte {
	b := make([]byte, n)
	for k := range b {
		b[k] = byte(c.below(256))
	}
	return b
}

// ref is mostly a right one.
func (c *chance) ref() string {
	const letters = "ab0z-./"
	s := "refs/"
	for range 1 + c.below(6) {
		s += string(letters[c.below(len(letters)-1-min(c.below(8), 1))])
	}
	if c.below(20) == 0 {
		s += "/" + strings.Repeat("x", c.below(20))
	}
	return s
}

func (c *chance) updates() []api.Update {
	var list []api.Update
	for range 1 + c.below(4) {
		list = append(list, api.Update{Ref: c.ref(), Old: id(c.below(4)), New: id(4 + c.below(4))})
	}
	switch c.below(20) {
	case 0:
		list = updates(c.below(12), 4+c.below(24))
	case 1:
		list = append(list, list[c.below(len(list))])
	case 2:
		list[c.below(len(list))].Old = id(4 + c.below(4))
	}
	return list
}

// object is mostly a right one: of each kind, of each size.
func (c *chance) object() []byte {
	text := c.bytes(8 + c.below([]int{2, 12, 100, 250}[c.below(4)]))
	b := blob(string(text))
	switch c.below(4) {
	case 0:
		b = mustObject(object.Object{Kind: object.Commit, Target: id(c.below(3)), Text: text[:len(text)/2]})
	case 1:
		b = mustObject(object.Object{Kind: object.Tag, Target: id(c.below(3)), Text: text})
	case 2:
		b = mustObject(object.Object{Kind: object.Tree, Entries: []object.Entry{{Name: "x", Id: api.Oid(c.bytes(32))}}})
	}
	switch c.below(200) {
	case 0:
		return b[:c.below(len(b))]
	case 1:
		return append(b, make([]byte, 300)...)
	case 2:
		b[0] = byte(c.below(256))
	}
	return b
}

// entry is mostly a right one: with each answer, of each size.
func (c *chance) entry() Entry {
	e := Entry{Client: c.below(8), Number: 1 + c.below([]int{1, 9, 1 << 20, 1 << 40}[c.below(4)])}
	if c.below(4) == 0 {
		e.Answer = 1 + c.below(10)
	} else {
		e.Updates = c.updates()
		for range c.below([]int{1, 3, 12, 60}[c.below(4)]) {
			e.Objects = append(e.Objects, c.object())
		}
	}
	switch c.below(30) {
	case 0:
		e.Client = c.below(256)
	case 1:
		e.Number = (c.below(5) - 2) << 39
	case 2:
		e.Answer = c.below(256)
	case 3:
		e.Objects = append(e.Objects, e.Objects...)
	case 4:
		e.Updates = nil
	case 5:
		e.Objects = append(e.Objects, blob("more"))
	}
	return e
}
