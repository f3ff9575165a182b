package repo

import (
	"bytes"
	"crypto/sha256"
	"errors"
	"maps"
	"slices"
	"strings"
	"testing"

	"cartage/api"
	"cartage/entry"
	"cartage/object"
)

// plain is a repository as the chapter tells it: entries, of which all else is worked out anew each time.
type plain []entry.Entry

func (p plain) refs() map[string]api.Oid {
	refs := map[string]api.Oid{}
	for _, e := range p {
		for _, u := range e.Updates {
			refs[u.Ref] = u.New
		}
	}
	maps.DeleteFunc(refs, func(_ string, id api.Oid) bool { return id == api.Oid{} })
	return refs
}

func (p plain) objects() [][]byte {
	byId := map[string][]byte{}
	for _, e := range p {
		for _, text := range e.Objects {
			id := idOf(text)
			byId[string(id[:])] = text
		}
	}
	var list [][]byte
	for _, id := range slices.Sorted(maps.Keys(byId)) {
		list = append(list, byId[id])
	}
	return list
}

func (p plain) last(client int) (number, answer int) {
	for _, e := range p {
		if e.Client == client {
			number, answer = e.Number, e.Answer
		}
	}
	return number, answer
}

// behind is the entries with one more, whether it fits or not.
func (p plain) behind(e entry.Entry) plain { return append(slices.Clip(p), entry.Copy(e)) }

// fault asks what the chapter asks, in its order.
func (p plain) fault(e entry.Entry) error {
	if !entry.Right(e) {
		return api.ErrForm
	}
	for _, other := range p {
		if other.Client == e.Client && other.Number >= e.Number {
			return api.ErrStale
		}
	}
	refs, objects := p.refs(), p.objects()
	for _, u := range e.Updates {
		if old, has := refs[u.Ref]; has && u.Old != old || !has && u.Old != (api.Oid{}) {
			return api.ErrCas
		}
	}
	next := p.behind(e)
	if len(next.refs()) > 16 || len(objects)+len(e.Objects) > 64 {
		return api.ErrFull
	}
	for _, text := range e.Objects {
		if slices.ContainsFunc(objects, func(b []byte) bool { return bytes.Equal(b, text) }) {
			return api.ErrDup
		}
	}
	if !next.whole() {
		return api.ErrMissing
	}
	return nil
}

// whole goes from ref to ref, and from link to link.
func (p plain) whole() bool {
	there := map[api.Oid]object.Object{}
	for _, text := range p.objects() {
		o, err := object.Parse(text)
		if err != nil {
			return false
		}
		there[idOf(text)] = o
	}
	seen := map[api.Oid]bool{}
	var hangs func(id api.Oid) bool
	hangs = func(id api.Oid) bool {
		if seen[id] {
			return true
		}
		seen[id] = true
		o, has := there[id]
		if !has || o.Kind == object.Commit && there[o.Target].Kind != object.Tree {
			return false
		}
		for _, link := range object.Links(o) {
			if !hangs(link) {
				return false
			}
		}
		return true
	}
	for _, id := range p.refs() {
		if !hangs(id) {
			return false
		}
	}
	return true
}

// entries is those from a place on, one by one.
func (p plain) entries(from, most int) []entry.Entry {
	var list []entry.Entry
	for k, e := range p {
		if from >= 0 && k >= from && len(list) < most {
			list = append(list, e)
		}
	}
	return list
}

// alike fails where a repository tells of itself otherwise than the plain one.
func alike(t *testing.T, r *Repo, p plain) {
	t.Helper()
	if r.Seq() != len(p) {
		t.Fatalf("Seq %d, not %d", r.Seq(), len(p))
	}
	for _, from := range []int{-1, 0, 1, len(p) - 1, len(p), len(p) + 1} {
		for _, most := range []int{-1, 0, 1, 2, len(p), len(p) + 1} {
			if got, want := r.Entries(from, most), p.entries(from, most); !slices.EqualFunc(got, want, entry.Same) {
				t.Fatalf("Entries(%d, %d): %v, not %v", from, most, got, want)
			}
		}
	}
	for client := -1; client <= 8; client++ {
		number, answer := r.Last(client)
		if wantNumber, wantAnswer := p.last(client); number != wantNumber || answer != wantAnswer {
			t.Fatalf("Last(%d): %d, %d, not %d, %d", client, number, answer, wantNumber, wantAnswer)
		}
	}
	alikeRefs(t, r, p.refs())
	alikeObjects(t, r, p.objects())
}

func alikeRefs(t *testing.T, r *Repo, want map[string]api.Oid) {
	t.Helper()
	var list []Ref
	for name, id := range want {
		list = append(list, Ref{name, id})
		if r.Ref(name) != id {
			t.Fatalf("Ref(%q): %x, not %x", name, r.Ref(name), id)
		}
		for _, other := range []string{name + "/", name + "x", name[1:], strings.ToUpper(name)} {
			if _, has := want[other]; !has && r.Ref(other) != (api.Oid{}) {
				t.Fatalf("Ref(%q): %x", other, r.Ref(other))
			}
		}
	}
	slices.SortFunc(list, func(a, b Ref) int { return strings.Compare(a.Name, b.Name) })
	if got := r.Refs(); !slices.Equal(got, list) {
		t.Fatalf("Refs: %v, not %v", got, list)
	}
	if r.Ref("") != (api.Oid{}) || r.Ref("refs/never") != (api.Oid{}) {
		t.Fatal("a ref that never was is there")
	}
}

func alikeObjects(t *testing.T, r *Repo, want [][]byte) {
	t.Helper()
	if got := r.Objects(); !slices.EqualFunc(got, want, bytes.Equal) {
		t.Fatalf("Objects: %q, not %q", got, want)
	}
	for _, text := range want {
		id := idOf(text)
		if !r.Has(id) {
			t.Fatalf("Has of %q: false", text)
		}
		if id[31]++; r.Has(id) {
			t.Fatalf("Has of an id near that of %q: true", text)
		}
	}
	if r.Has(api.Oid{}) || r.Has(idOf(blob("never"))) {
		t.Fatal("an object that never was is there")
	}
}

func sameError(a, b error) bool {
	return a == nil && b == nil || a != nil && b != nil && errors.Is(a, b)
}

// come lets an entry come to both, and fails where the answers differ; what there is behind it is answered.
func come(t *testing.T, r *Repo, p plain, e entry.Entry) plain {
	t.Helper()
	want := p.fault(e)
	if err := r.Apply(e); !sameError(err, want) {
		t.Fatalf("Apply of %v behind %v: %v, not %v", e, p, err, want)
	}
	if want != nil {
		return p
	}
	return p.behind(e)
}

// made is a repository of entries that fit, and its plain one.
func made(t *testing.T, list ...entry.Entry) (*Repo, plain) {
	t.Helper()
	r := New()
	for _, e := range list {
		if err := r.Apply(e); err != nil {
			t.Fatalf("Apply of %v: %v", e, err)
		}
	}
	alike(t, r, list)
	return r, slices.Clip(list)
}

// refused fails where a repository answers an entry otherwise than with that error, or is changed by it.
func refused(t *testing.T, what string, list []entry.Entry, e entry.Entry, want error) {
	t.Helper()
	r, p := made(t, list...)
	if err := r.Apply(e); !sameError(err, want) {
		t.Errorf("%s: %v, not %v", what, err, want)
	}
	if want == nil {
		p = p.behind(e)
	}
	alike(t, r, p)
	if err := p[:len(list)].fault(e); !sameError(err, want) {
		t.Errorf("%s: the plain one says %v, not %v", what, err, want)
	}
}

// What follows is objects' bytes, laid by hand, and entries of them.

func idOf(text []byte) api.Oid { return sha256.Sum256(text) }

func blob(s string) []byte { return []byte("b" + s) }

// tree has an entry for each object; the names are a, b, c and so on.
func tree(of ...[]byte) []byte {
	b := []byte("t")
	for k, text := range of {
		id := idOf(text)
		b = append(append(b, 1, byte('a'+k)), id[:]...)
	}
	return b
}

func commit(s string, tree []byte, parents ...[]byte) []byte {
	id := idOf(tree)
	b := append(append([]byte("c"), id[:]...), byte(len(parents)))
	for _, text := range parents {
		id := idOf(text)
		b = append(b, id[:]...)
	}
	return append(b, s...)
}

func tag(s string, of []byte) []byte {
	id := idOf(of)
	return append(append([]byte("g"), id[:]...), s...)
}

// move is an update of a ref from one object to another one; nil is none.
func move(ref string, from, to []byte) api.Update {
	u := api.Update{Ref: ref}
	if from != nil {
		u.Old = idOf(from)
	}
	if to != nil {
		u.New = idOf(to)
	}
	return u
}

func moves(list ...api.Update) []api.Update { return list }

// push is an entry with OK, of client 0.
func push(number int, updates []api.Update, objects ...[]byte) entry.Entry {
	return entry.Entry{Number: number, Updates: updates, Objects: objects}
}

// refusal is an entry with another answer.
func refusal(client, number, answer int) entry.Entry {
	return entry.Entry{Client: client, Number: number, Answer: answer}
}

// blobs is so many small objects, each another one.
func blobs(n int) [][]byte {
	var list [][]byte
	for k := range n {
		list = append(list, blob(string([]byte{byte('0' + k/10), byte('0' + k%10)})))
	}
	return list
}

// names is so many refs' names.
func names(n int) []string {
	var list []string
	for k := range n {
		list = append(list, "refs/"+string(rune('a'+k)))
	}
	return list
}

// chance is numbers that are the same ones each time.
type chance struct{ x uint64 }

func (c *chance) below(n int) int {
	c.x = c.x*6364136223846793005 + 1442695040888963407
	return int((c.x >> 20) % uint64(n))
}

// object names what is ahead of it; a commit's tree is now and then none.
func (c *chance) object(ahead [][]byte) []byte {
	s := string([]byte{byte('0' + c.below(10)), byte('0' + c.below(10)), byte('0' + c.below(10))})
	one := func() []byte { return ahead[c.below(len(ahead))] }
	kind := c.below(6)
	if len(ahead) == 0 {
		kind = 0
	}
	switch kind {
	case 1:
		return tag(s, one())
	case 2:
		var of [][]byte
		for range c.below(4) {
			of = append(of, one())
		}
		return tree(of...)
	case 3, 4:
		to := one()
		for k := 0; k < 20 && to[0] != 't'; k++ {
			to = one()
		}
		if c.below(3) == 0 {
			return commit(s, to, one())
		}
		return commit(s, to)
	}
	return blob(s)
}

// pool is objects that hang on one another, each once.
func (c *chance) pool(n int) [][]byte {
	var list [][]byte
	for len(list) < n {
		text := c.object(list)
		if !slices.ContainsFunc(list, func(b []byte) bool { return bytes.Equal(b, text) }) {
			list = append(list, text)
		}
	}
	return list
}

// needed is those of a pool on which an object hangs, and which a repository hasn't; itself too.
func needed(p plain, pool [][]byte, id api.Oid) [][]byte {
	var list [][]byte
	wanted := []api.Oid{id}
	for k := 0; k < len(wanted); k++ {
		at := slices.IndexFunc(pool, func(b []byte) bool { return idOf(b) == wanted[k] })
		if at < 0 || slices.Contains(wanted[:k], wanted[k]) {
			continue
		}
		if !slices.ContainsFunc(p.objects(), func(b []byte) bool { return bytes.Equal(b, pool[at]) }) {
			list = append(list, pool[at])
		}
		o, _ := object.Parse(pool[at])
		wanted = append(wanted, object.Links(o)...)
	}
	return list
}

// updates is of some refs, mostly from where they are to one of a pool.
func (c *chance) updates(p plain, pool [][]byte, refs []string) []api.Update {
	var list []api.Update
	now := p.refs()
	for range 1 + c.below(3) {
		u := api.Update{Ref: refs[c.below(len(refs))]}
		u.Old, u.New = now[u.Ref], idOf(pool[c.below(len(pool))])
		switch c.below(24) {
		case 0:
			u.Old = idOf(pool[c.below(len(pool))])
		case 1:
			u.Old = api.Oid{}
		case 2, 3:
			u.New = api.Oid{}
		case 4:
			u.New = idOf(blob("nowhere"))
		}
		if u.Old != u.New && !slices.ContainsFunc(list, func(o api.Update) bool { return o.Ref == u.Ref }) {
			list = append(list, u)
		}
	}
	return list
}

// entry is mostly one that fits, and brings what it needs.
func (c *chance) entry(p plain, pool [][]byte, refs []string) entry.Entry {
	e := entry.Entry{Client: c.below(8)}
	number, _ := p.last(e.Client)
	e.Number = number + 1 + c.below(3)
	if c.below(12) == 0 {
		e.Number = number - c.below(2)
	}
	if c.below(5) == 0 {
		e.Answer = 1 + c.below(10)
		return e
	}
	e.Updates = c.updates(p, pool, refs)
	for _, u := range e.Updates {
		for _, text := range needed(p, pool, u.New) {
			if !slices.ContainsFunc(e.Objects, func(b []byte) bool { return bytes.Equal(b, text) }) && c.below(40) > 0 {
				e.Objects = append(e.Objects, text)
			}
		}
	}
	if c.below(6) == 0 {
		e.Objects = append(e.Objects, pool[c.below(len(pool))])
	}
	return e
}
