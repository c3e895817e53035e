package keeper

import (
	"tabulary/api"
	"tabulary/brief"
	"tabulary/chain"
	"tabulary/sign"
	"tabulary/span"
	"tabulary/store"
	"tabulary/tag"
)

// A recovery is a logger that is found again, record by record.
type recovery struct {
	api.Logger
	many int          // records that are to be taken
	left map[int]left // by place
}

// What is left of an event, by the first deletion's record that tells it, and which of all records that is.
type left struct {
	x  api.Slot
	by int
}

// A taking takes a record, if it may stand behind those that were taken.
type taking func(c *recovery) bool

// A note is a record that was read: how it is taken, and the sector behind it.
type note struct {
	take taking
	end  int
}

// Recover finds it again.
func Recover(d api.Disk, k api.Keys, r api.Rule) (api.Logger, api.Errno) {
	g, e := begun(d, k, r)
	if e != api.OK {
		return api.Logger{}, e
	}
	records, _, e := store.Load(d)
	if e != api.OK {
		return api.Logger{}, e
	}
	g = found(g, records)
	if g.D, e = tidied(g); e != api.OK {
		return api.Logger{}, e
	}
	return g, api.OK
}

// found is a logger that has taken nothing yet, with all records that may be taken.
func found(g api.Logger, records []api.Record) api.Logger {
	// Read once: some records are taken anew as often as there are others.
	notes, told := read(g, records)
	var c recovery
recovering:
	for {
		c = recovery{Logger: g, many: len(notes), left: told}
		switch taken := c.takeAll(notes); {
		case taken == len(notes):
			break recovering
		default:
			notes = notes[:taken]
		}
	}
	c.L.Links = chain.Links(hashes(span.Nodes(c.L.L)))
	return c.Logger
}

// takeAll takes records, as long as each may be taken, and tells how many were.
func (c *recovery) takeAll(notes []note) int {
	for i, n := range notes {
		if !n.take(c) {
			return i
		}
		c.At = n.end
	}
	return len(notes)
}

// read reads records, and tells by place what they leave of events.
func read(g api.Logger, records []api.Record) ([]note, map[int]left) {
	told := map[int]left{}
	leave := func(i int, l left) {
		if _, is := told[i]; !is {
			told[i] = l
		}
	}
	var notes []note
	takers := readers(g, leave)
	for by, r := range records {
		n := note{take: none, end: r.At + r.Many}
		kind, parts, e := tag.Parts(r.S)
		switch reader := takers[kind]; {
		case r.Wiped:
			n.take = (*recovery).addWiped
		case e == api.OK && reader != nil:
			n.take = reader(by, parts)
		}
		notes = append(notes, n)
	}
	return notes, told
}

// none takes a record that may stand nowhere.
func none(*recovery) bool { return false }

// readers tell by a record's kind how it is taken, of which of all records it is, and its parts; leave is told what it leaves of an event.
func readers(g api.Logger, leave func(i int, l left)) map[int]func(by int, parts []string) taking {
	many := sign.Left(g.G)
	return map[int]func(by int, parts []string) taking{
		ofEvent: func(_ int, parts []string) taking {
			x, is := eventIn(parts, g.R)
			return func(c *recovery) bool { return is && c.add(x) }
		},
		ofDeletion: func(by int, parts []string) taking {
			i, x, is := deletionIn(parts)
			if is {
				leave(i, left{x: x, by: by})
			}
			return func(c *recovery) bool { return is && c.drop(i, x) }
		},
		ofState: func(_ int, parts []string) taking {
			key, is := keyIn(parts, many)
			return func(c *recovery) bool { return is && c.use(key) }
		},
	}
}

// eventIn is the event that parts tell, if the rule takes its message.
func eventIn(parts []string, r api.Rule) (api.Slot, bool) {
	if len(parts) != 1 {
		return api.Slot{}, false
	}
	b, e := briefOf(parts[0], r)
	return span.Slot(parts[0], b), e == api.OK
}

// deletionIn is the place that parts tell, and what is left of its event, if that is one that needn't be kept.
func deletionIn(parts []string) (int, api.Slot, bool) {
	if len(parts) != 3 || len(parts[1]) != api.HashSize {
		return 0, api.Slot{}, false
	}
	i, is := numberIn(parts[0], api.MaxEvents)
	b, e := brief.Parse(parts[2])
	if !is || e != api.OK || b.Many != 1 || b.Keep {
		return 0, api.Slot{}, false
	}
	return i, span.Drop(api.Slot{H: api.Hash([]byte(parts[1])), B: b}), true
}

// keyIn is the key that parts tell, if it is one of so many.
func keyIn(parts []string, many int) (int, bool) {
	if len(parts) != 1 {
		return 0, false
	}
	return numberIn(parts[0], many)
}

// numberIn is the number that a part tells, if it is below a bound.
func numberIn(part string, bound int) (int, bool) {
	if len(part) != numberSize {
		return 0, false
	}
	n := uint64(0)
	for i := range len(part) {
		n = n<<byteBits | uint64(part[i])
	}
	// Without a sign: where the highest bit is set, it is above all bounds.
	if n >= uint64(bound) {
		return 0, false
	}
	return int(n), true
}

// add adds an event, whose record begins at At, if there is room.
func (c *recovery) add(x api.Slot) bool {
	if !hasRoom(c.Logger) {
		return false
	}
	c.L.L, c.Recs = append(c.L.L, x), append(c.Recs, c.At)
	return true
}

// addWiped adds an event whose record was wiped, if one of those that are to be taken tells what is left of it.
func (c *recovery) addWiped() bool {
	l, told := c.left[len(c.L.L)]
	return told && l.by < c.many && c.add(l.x)
}

// drop leaves x of the i-th event, if that is what is left of it.
func (c *recovery) drop(i int, x api.Slot) bool {
	if i >= len(c.L.L) || span.Drop(c.L.L[i]) != x {
		return false
	}
	c.L.L[i] = x
	return true
}

// use goes on behind a key.
func (c *recovery) use(key int) bool {
	c.G.Next = max(c.G.Next, key+1)
	return true
}

// tidied is a logger's disk with nothing behind At, and no text of an event that was deleted.
func tidied(g api.Logger) (api.Disk, api.Errno) {
	d, e := store.Clean(g.D, g.At)
	for i, x := range g.L.L {
		if x.Gone && e == api.OK {
			d, e = wiped(d, g.Recs[i])
		}
	}
	return d, e
}

// wiped is a disk with a record wiped, if it wasn't yet.
func wiped(d api.Disk, at int) (api.Disk, api.Errno) {
	r, _, e := store.At(d, at)
	if e != api.OK || r.Wiped {
		return d, e
	}
	return store.Wipe(d, at)
}
