package push

import (
	"bytes"
	"crypto/sha256"
	"encoding/binary"
	"errors"
	"fmt"
	"maps"
	"regexp"
	"slices"
	"testing"

	"cartage/api"
	"cartage/delta"
	"cartage/entry"
	"cartage/object"
	"cartage/pack"
	"cartage/repo"
)

// plain is a repository as its journal: all that is asked of it is worked out of the entries anew each time.
type plain []entry.Entry

func (p plain) refs() map[string]api.Oid {
	refs := map[string]api.Oid{}
	for _, e := range p {
		for _, u := range e.Updates {
			refs[u.Ref] = u.New
		}
	}
	maps.DeleteFunc(refs, func(_ string, id api.Oid) bool { return id == api.Oid{} })
	return refs
}

// objects is in the order in which they came.
func (p plain) objects() [][]byte {
	var list [][]byte
	for _, e := range p {
		list = append(list, e.Objects...)
	}
	return list
}

// last is the last entry of a client; one with number 0, if there is none.
func (p plain) last(client int) entry.Entry {
	var last entry.Entry
	for _, e := range p {
		if e.Client == client {
			last = e
		}
	}
	return last
}

// What layer 3 tells of a ref's name, but for its length.
var refForm = regexp.MustCompile(`\A\.*[a-z0-9-][a-z0-9.-]*(/\.*[a-z0-9-][a-z0-9.-]*)+\z`)

func plainUpdates(list []api.Update) bool {
	for k, u := range list {
		if len(u.Ref) > 24 || !refForm.MatchString(u.Ref) || u.Old == u.New {
			return false
		}
		if slices.ContainsFunc(list[:k], func(o api.Update) bool { return o.Ref == u.Ref }) {
			return false
		}
	}
	return len(list) >= 1 && len(list) <= 8
}

// judge asks what the chapter asks, in its order.
func (p plain) judge(ask Push) (entry.Entry, bool, error) {
	if ask.Client < 0 || ask.Client > 7 || ask.Number < 1 || ask.Number > 1<<40 {
		return entry.Entry{}, false, api.ErrForm
	}
	e := entry.Entry{Client: ask.Client, Number: ask.Number}
	switch last := p.last(ask.Client); {
	case ask.Number == last.Number:
		e.Answer = last.Answer
		return e, false, nil
	case ask.Number < last.Number:
		return entry.Entry{}, false, api.ErrStale
	}
	var fresh [][]byte
	e.Answer, fresh = p.answer(ask)
	if e.Answer == 0 {
		e.Updates, e.Objects = ask.Updates, fresh
	}
	return e, true, nil
}

// answer is 3 to 8 of the chapter, and which objects would come.
func (p plain) answer(ask Push) (answer int, fresh [][]byte) {
	if !plainUpdates(ask.Updates) {
		return 1, nil
	}
	list, err := pack.Decode(ask.Pack, p.objects())
	switch {
	case err == nil:
	case errors.Is(err, api.ErrLarge):
		return 6, nil
	case errors.Is(err, api.ErrMissing):
		return 3, nil
	default:
		return 1, nil
	}
	for _, text := range list {
		if !has(p.objects(), text) {
			fresh = append(fresh, text)
		}
	}
	refs := p.refs()
	for _, u := range ask.Updates {
		if refs[u.Ref] != u.Old { // one that isn't there is at noughts
			return 2, nil
		}
	}
	next := append(slices.Clip(p), entry.Entry{Updates: ask.Updates, Objects: fresh})
	size := 12
	for _, u := range ask.Updates {
		size += 66 + len(u.Ref)
	}
	for _, text := range fresh {
		size += 2 + len(text)
	}
	switch {
	case len(next.refs()) > 16 || len(next.objects()) > 64:
		return 4, nil
	case !next.whole():
		return 3, nil
	case size > 2800:
		return 6, nil
	}
	return 0, fresh
}

// whole goes from ref to ref, and from link to link.
func (p plain) whole() bool {
	there := map[api.Oid]object.Object{}
	for _, text := range p.objects() {
		there[idOf(text)], _ = object.Parse(text)
	}
	seen := map[api.Oid]bool{}
	var hangs func(id api.Oid) bool
	hangs = func(id api.Oid) bool {
		if seen[id] {
			return true
		}
		seen[id] = true
		o, is := there[id]
		if !is || o.Kind == object.Commit && there[o.Target].Kind != object.Tree {
			return false
		}
		return !slices.ContainsFunc(object.Links(o), func(link api.Oid) bool { return !hangs(link) })
	}
	for _, id := range p.refs() {
		if !hangs(id) {
			return false
		}
	}
	return true
}

func has(list [][]byte, text []byte) bool {
	return slices.ContainsFunc(list, func(b []byte) bool { return bytes.Equal(b, text) })
}

// plainBytes is the bytes of any push whose numbers have so many.
func plainBytes(p Push) []byte {
	text := func(b, s []byte) []byte {
		return append(binary.BigEndian.AppendUint16(b, uint16(len(s))), s...)
	}
	b := binary.BigEndian.AppendUint64([]byte{byte(p.Client)}, uint64(p.Number))
	b = append(b, byte(len(p.Updates)))
	for _, u := range p.Updates {
		b = slices.Concat(text(b, []byte(u.Ref)), u.Old[:], u.New[:])
	}
	return text(b, p.Pack)
}

// plainParse cuts with a rest of its own, and asks what is wrong in the chapter's order.
func plainParse(b []byte) (Push, error) {
	if len(b) > 3000 {
		return Push{}, api.ErrLarge
	}
	var fault error
	cut := func(n int) []byte {
		if fault == nil && n > len(b) {
			fault = api.ErrShort
		}
		if fault != nil {
			return make([]byte, n)
		}
		out := b[:n]
		b = b[n:]
		return out
	}
	text := func() []byte { return cut(int(binary.BigEndian.Uint16(cut(2)))) }
	p := Push{Client: int(cut(1)[0])}
	number := binary.BigEndian.Uint64(cut(8))
	if fault == nil && number >= 1<<62 {
		fault = api.ErrRange
	}
	p.Number = int(number)
	for range cut(1)[0] {
		ref := string(text())
		p.Updates = append(p.Updates, api.Update{Ref: ref, Old: api.Oid(cut(32)), New: api.Oid(cut(32))})
	}
	p.Pack = text()
	if fault == nil && len(b) > 0 {
		fault = api.ErrLong
	}
	if fault != nil {
		return Push{}, fault
	}
	return p, nil
}

// plainSame goes by what a push looks like when it is written out.
func plainSame(a, b Push) bool {
	told := func(p Push) string {
		s := fmt.Sprintf("%d %d %q %d", p.Client, p.Number, p.Pack, len(p.Updates))
		for _, u := range p.Updates {
			s += fmt.Sprintf(" %q %x %x", u.Ref, u.Old, u.New)
		}
		return s
	}
	return told(a) == told(b)
}

func sameError(a, b error) bool {
	return a == nil && b == nil || a != nil && b != nil && errors.Is(a, b)
}

// made is the repository of entries that fit.
func made(t *testing.T, list plain) *repo.Repo {
	t.Helper()
	r, place, err := repo.Replay(list)
	if err != nil {
		t.Fatalf("entry %d of %v doesn't fit: %v", place, list, err)
	}
	return r
}

// alike fails where a repository isn't the one of entries.
func alike(t *testing.T, what string, r *repo.Repo, list plain) {
	t.Helper()
	if got := r.Entries(0, len(list)+1); !slices.EqualFunc(got, list, entry.Same) {
		t.Fatalf("%s: the journal is %v, not %v", what, got, list)
	}
	for client := range 8 {
		number, answer := r.Last(client)
		if last := list.last(client); number != last.Number || answer != last.Answer {
			t.Fatalf("%s: the last one of client %d is %d, %d", what, client, number, answer)
		}
	}
	refs := map[string]api.Oid{}
	for _, ref := range r.Refs() {
		refs[ref.Name] = ref.Id
	}
	if !maps.Equal(refs, list.refs()) {
		t.Fatalf("%s: the refs are %v, not %v", what, refs, list.refs())
	}
	objects := list.objects()
	slices.SortFunc(objects, func(a, b []byte) int {
		one, two := idOf(a), idOf(b)
		return bytes.Compare(one[:], two[:])
	})
	if got := r.Objects(); !slices.EqualFunc(got, objects, bytes.Equal) {
		t.Fatalf("%s: the objects are %q, not %q", what, got, objects)
	}
}

// come lets a push come to a repository, by Judge and by Do, and fails where they answer otherwise than the plain one, or do what they don't tell; what there is behind it is answered.
func come(t *testing.T, what string, r *repo.Repo, list plain, ask Push) plain {
	t.Helper()
	want, wantIs, wantErr := list.judge(ask)
	e, is, err := Judge(r, ask)
	if !sameError(err, wantErr) || is != wantIs || !entry.Same(e, want) {
		t.Fatalf("%s: Judge of %v: %v, %v, %v, not %v, %v, %v", what, ask, e, is, err, want, wantIs, wantErr)
	}
	alike(t, what+": behind Judge", r, list)
	if is {
		if err := r.Copy().Apply(e); err != nil {
			t.Fatalf("%s: what is judged doesn't fit: %v: %v", what, e, err)
		}
		list = append(slices.Clip(list), entry.Copy(want))
	}
	answer, is, err := Do(r, ask)
	if !sameError(err, wantErr) || is != wantIs || answer != want.Answer {
		t.Fatalf("%s: Do of %v: %d, %v, %v, not %d, %v, %v", what, ask, answer, is, err, want.Answer, wantIs, wantErr)
	}
	alike(t, what+": behind Do", r, list)
	return list
}

// answered fails where entries answer a push otherwise than so, by an entry.
func answered(t *testing.T, what string, list plain, ask Push, want int) {
	t.Helper()
	r := made(t, list)
	e, is, err := Judge(r, ask)
	if e.Answer != want || !is || err != nil {
		t.Errorf("%s: %d, %v, %v, not %d", what, e.Answer, is, err, want)
	}
	come(t, what, r, list, ask)
}

// refused fails where entries answer a push otherwise than by an error.
func refused(t *testing.T, what string, list plain, ask Push, want error) {
	t.Helper()
	r := made(t, list)
	e, is, err := Judge(r, ask)
	if !entry.Same(e, entry.Entry{}) || is || !sameError(err, want) || err == nil {
		t.Errorf("%s: %v, %v, %v, not %v", what, e, is, err, want)
	}
	come(t, what, r, list, ask)
}

// What follows is objects' bytes and packs, laid by hand, and pushes of them.

func idOf(text []byte) api.Oid { return sha256.Sum256(text) }

func blob(s string) []byte { return []byte("b" + s) }

// tree has an entry for each object; the names are a, b, c and so on.
func tree(of ...[]byte) []byte {
	b := []byte("t")
	for k, text := range of {
		id := idOf(text)
		b = append(append(b, 1, byte('a'+k)), id[:]...)
	}
	return b
}

func commit(s string, tree []byte, parents ...[]byte) []byte {
	id := idOf(tree)
	b := append(append([]byte("c"), id[:]...), byte(len(parents)))
	for _, text := range parents {
		id := idOf(text)
		b = append(b, id[:]...)
	}
	return append(b, s...)
}

func tag(s string, of []byte) []byte {
	id := idOf(of)
	return append(append([]byte("g"), id[:]...), s...)
}

// move is an update of a ref from one object to another one; nil is none.
func move(ref string, from, to []byte) api.Update {
	u := api.Update{Ref: ref}
	if from != nil {
		u.Old = idOf(from)
	}
	if to != nil {
		u.New = idOf(to)
	}
	return u
}

func moves(list ...api.Update) []api.Update { return list }

// short is n bytes that tell of a length, and of the bytes that follow.
func short(b []byte) []byte { return append([]byte{byte(len(b) >> 8), byte(len(b))}, b...) }

// told is an item that is told by itself.
func told(text []byte) []byte { return append([]byte{0}, short(text)...) }

// toldBy is an item that is told by a delta.
func toldBy(base, d []byte) []byte {
	id := idOf(base)
	return slices.Concat([]byte{1}, id[:], short(d))
}

// from is an item that is told by the delta that is made from a base to a text; neither has too many bytes.
func from(base, text []byte) []byte {
	d, err := delta.Make(base, text)
	if err != nil {
		panic(err)
	}
	return toldBy(base, d)
}

// packed is a pack of items, whatever is right of them.
func packed(items ...[]byte) []byte {
	return slices.Concat([]byte{byte(len(items))}, slices.Concat(items...))
}

// packOf is a pack of objects that are told by themselves.
func packOf(objects ...[]byte) []byte {
	var items [][]byte
	for _, text := range objects {
		items = append(items, told(text))
	}
	return packed(items...)
}

// ask is a push of client 0.
func ask(number int, updates []api.Update, objects ...[]byte) Push {
	return Push{Number: number, Updates: updates, Pack: packOf(objects...)}
}

// done is an entry with OK, of client 0.
func done(number int, updates []api.Update, objects ...[]byte) entry.Entry {
	return entry.Entry{Number: number, Updates: updates, Objects: objects}
}

// blobs is so many small objects, each another one.
func blobs(n int) [][]byte {
	var list [][]byte
	for k := range n {
		list = append(list, blob(string([]byte{byte('0' + k/10), byte('0' + k%10)})))
	}
	return list
}

// names is so many refs' names.
func names(n int) []string {
	var list []string
	for k := range n {
		list = append(list, "refs/"+string(rune('a'+k)))
	}
	return list
}

// wide is a blob of so many bytes, near the others.
func wide(k, size int) []byte {
	b := bytes.Repeat([]byte("."), size)
	b[0], b[1], b[2] = 'b', byte('0'+k/10), byte('0'+k%10)
	return b
}

// full is entries behind which there are so many refs, all on the first blob, and so many objects; their last number is 100.
func full(refs, objects int) plain {
	texts := blobs(objects)
	list := plain{ // so the objects come, even if there is no ref in the end
		done(1, moves(move("refs/0", nil, texts[0])), texts...),
		done(2, moves(move("refs/0", texts[0], nil))),
	}
	for k, name := range names(refs) {
		list = append(list, done(k+3, moves(move(name, nil, texts[0]))))
	}
	return append(list, entry.Entry{Number: 100, Answer: 2})
}

// chance is numbers that are the same ones each time.
type chance struct{ x uint64 }

func (c *chance) below(n int) int {
	c.x = c.x*6364136223846793005 + 1442695040888963407
	return int((c.x >> 20) % uint64(n))
}

func (c *chance) bytes(n int) []byte {
	b := make([]byte, n)
	for k := range b {
		b[k] = byte(c.below(256))
	}
	return b
}

// object names what is ahead of it; a commit's tree is now and then none.
func (c *chance) object(ahead [][]byte) []byte {
	s := string([]byte{byte('0' + c.below(10)), byte('0' + c.below(10)), byte('0' + c.below(10))})
	one := func() []byte { return ahead[c.below(len(ahead))] }
	kind := c.below(8)
	if len(ahead) == 0 {
		kind = 0
	}
	switch kind {
	case 1:
		return tag(s, one())
	case 2:
		var of [][]byte
		for range c.below(4) {
			of = append(of, one())
		}
		return tree(of...)
	case 3, 4:
		to := one()
		for k := 0; k < 20 && to[0] != 't'; k++ {
			to = one()
		}
		if c.below(3) == 0 {
			return commit(s, to, one())
		}
		return commit(s, to)
	case 5:
		return wide(c.below(100), 300)
	}
	return blob(s)
}

// pool is objects that hang on one another, each once.
func (c *chance) pool(n int) [][]byte {
	var list [][]byte
	for len(list) < n {
		if text := c.object(list); !has(list, text) {
			list = append(list, text)
		}
	}
	return list
}

// needed is those of a pool on which an object hangs, and which a repository hasn't; itself too.
func needed(p plain, pool [][]byte, id api.Oid) [][]byte {
	var list [][]byte
	wanted := []api.Oid{id}
	for k := 0; k < len(wanted); k++ {
		at := slices.IndexFunc(pool, func(b []byte) bool { return idOf(b) == wanted[k] })
		if at < 0 || slices.Contains(wanted[:k], wanted[k]) {
			continue
		}
		if !has(p.objects(), pool[at]) {
			list = append(list, pool[at])
		}
		o, _ := object.Parse(pool[at])
		wanted = append(wanted, object.Links(o)...)
	}
	return list
}

// updates is of some refs, mostly from where they are to one of a pool.
func (c *chance) updates(p plain, pool [][]byte, refs []string) []api.Update {
	var list []api.Update
	now := p.refs()
	for range 1 + c.below(3) {
		u := api.Update{Ref: refs[c.below(len(refs))]}
		u.Old, u.New = now[u.Ref], idOf(pool[c.below(len(pool))])
		switch c.below(40) {
		case 0:
			u.Old = idOf(pool[c.below(len(pool))])
		case 1:
			u.Old = api.Oid{}
		case 2, 3:
			u.New = api.Oid{}
		case 4:
			u.New = idOf(blob("nowhere"))
		case 5:
			u.Ref = u.Ref[1:] + "/"
		}
		if u.Old != u.New && !slices.ContainsFunc(list, func(o api.Update) bool { return o.Ref == u.Ref }) {
			list = append(list, u)
		}
	}
	return list
}

// pack has objects by themselves, or from one that is known or ahead, now and then wrong.
func (c *chance) pack(known, objects [][]byte) []byte {
	var items [][]byte
	for k, text := range objects {
		bases := slices.Concat(known, objects[:k])
		if text[0] == 'b' && len(text) == 300 && k > 0 && c.below(8) > 0 {
			bases = objects[:1] // so the pack is small, and no chain is long
		}
		if len(bases) > 0 && c.below(3) > 0 {
			items = append(items, from(bases[c.below(len(bases))], text))
		} else {
			items = append(items, told(text))
		}
	}
	b := packed(items...)
	switch c.below(60) {
	case 0:
		b[c.below(len(b))] = byte(c.below(256))
	case 1:
		return b[:c.below(len(b))]
	case 2:
		return append(b, 0)
	case 3:
		return append(packed(append(items, from(blob("nowhere"), blob("x")))...), 0)
	}
	return b
}

// push is mostly one that is answered OK, and brings what it needs; some bring much more.
func (c *chance) push(p plain, pool [][]byte, refs []string) Push {
	ask := Push{Client: c.below(8)}
	last := p.last(ask.Client)
	ask.Number = last.Number + 1 + c.below(3)
	switch c.below(30) {
	case 0:
		ask.Number = last.Number
	case 1:
		ask.Number = last.Number - 1 - c.below(2)
	case 2:
		ask.Client += 8 * (1 - 2*c.below(2))
	}
	ask.Updates = c.updates(p, pool, refs)
	var list [][]byte
	add := func(text []byte) {
		if !has(list, text) && c.below(40) > 0 {
			list = append(list, text)
		}
	}
	if c.below(12) == 0 {
		for k := range 10 {
			add(wide(c.below(10)+10*k, 300))
		}
	}
	for _, u := range ask.Updates {
		for _, text := range needed(p, pool, u.New) {
			add(text)
		}
	}
	for range c.below(3) {
		add(pool[c.below(len(pool))])
	}
	ask.Pack = c.pack(p.objects(), list)
	return ask
}
